/- The widest dimension of boxes, and both halves, of the program and of the reference. -/
import Derived.Test.YtmlkejbofnafeaaGreatFca
import Derived.Test.YtmlkejbofnafeaaGreatFrd
namespace Go.Proofs.YtmlkejbofnafeaaGreat.Ev
set_option linter.unusedSimpArgs false
open Go Go.RowKit
set_option linter.unusedVariables false
set_option maxRecDepth 100000
def fit_Widest_s : Sig := ⟨7, ⟨1, 0, 5⟩, ⟨2, 0, 0⟩, [(.asl 0 (.var 0))], [(some ⟨[], 61, true, false, (some ⟨(.var 0), [(.int .i64), (.int .i64), (.int .i64), (.int .i64), (.int .i64)], [(.avar 0), (.avar 1), (.avar 2), (.avar 3), (.avar 4)]⟩)⟩)], (.tuple [(.int .i64 (.var 1)), (.int .i64 (.var 2))]), []⟩
def fit_CutOf_s : Sig := ⟨5, ⟨2, 0, 5⟩, ⟨3, 0, 10⟩, [(.asl 0 (.var 0)), (.int .i64 (.var 1))], [(some ⟨[], 61, true, false, (some ⟨(.var 0), [(.int .i64), (.int .i64), (.int .i64), (.int .i64), (.int .i64)], [(.avar 0), (.avar 1), (.avar 2), (.avar 3), (.avar 4)]⟩)⟩)], (.tuple [(.agg [(.asl 1 (.var 2)), (.asl 2 (.var 3))]), (.int .i64 (.var 4))]), [(some ⟨[], 61, false, true, (some ⟨(.var 2), [(.int .i64), (.int .i64), (.int .i64), (.int .i64), (.int .i64)], [(.avar 5), (.avar 6), (.avar 7), (.avar 8), (.avar 9)]⟩)⟩), (some ⟨[], 61, false, true, (some ⟨(.var 3), [(.int .i64), (.int .i64), (.int .i64), (.int .i64), (.int .i64)], [(.avar 10), (.avar 11), (.avar 12), (.avar 13), (.avar 14)]⟩)⟩)]⟩
def etalonref07_Widest_s : Sig := ⟨9, ⟨1, 0, 5⟩, ⟨2, 0, 0⟩, [(.asl 0 (.var 0))], [(some ⟨[], 61, true, false, (some ⟨(.var 0), [(.int .i64), (.int .i64), (.int .i64), (.int .i64), (.int .i64)], [(.avar 0), (.avar 1), (.avar 2), (.avar 3), (.avar 4)]⟩)⟩)], (.tuple [(.int .i64 (.var 1)), (.int .i64 (.var 2))]), []⟩
def etalonref07_CutOf_s : Sig := ⟨10, ⟨2, 0, 5⟩, ⟨3, 0, 10⟩, [(.asl 0 (.var 0)), (.int .i64 (.var 1))], [(some ⟨[], 61, true, false, (some ⟨(.var 0), [(.int .i64), (.int .i64), (.int .i64), (.int .i64), (.int .i64)], [(.avar 0), (.avar 1), (.avar 2), (.avar 3), (.avar 4)]⟩)⟩)], (.tuple [(.agg [(.asl 1 (.var 2)), (.asl 2 (.var 3))]), (.int .i64 (.var 4))]), [(some ⟨[], 61, false, true, (some ⟨(.var 2), [(.int .i64), (.int .i64), (.int .i64), (.int .i64), (.int .i64)], [(.avar 5), (.avar 6), (.avar 7), (.avar 8), (.avar 9)]⟩)⟩), (some ⟨[], 61, false, true, (some ⟨(.var 3), [(.int .i64), (.int .i64), (.int .i64), (.int .i64), (.int .i64)], [(.avar 10), (.avar 11), (.avar 12), (.avar 13), (.avar 14)]⟩)⟩)]⟩

def wd_t : Tr :=
  (.call fit_checkBoxes_s ⟨[(.var 0)], [], [(.avar 0), (.avar 1), (.avar 2), (.avar 3), (.avar 4)]⟩ ⟨[(.var 0), (.var 1)], [], [(.avar 0), (.avar 1), (.avar 2), (.avar 3), (.avar 4)]⟩ ⟨17, [(.asl 0 (.var 0))], [0], [(some ⟨[], 61, true, false, (some ⟨(.var 0), [(.int .i64), (.int .i64), (.int .i64), (.int .i64), (.int .i64)], [(.avar 0), (.avar 1), (.avar 2), (.avar 3), (.avar 4)]⟩)⟩)], (.int .i64 (.var 1)), []⟩
  (.ite (.icmp .eql (.var 1) (.lit 0))
  (.loop ⟨20, [0, 1, 0, 1, 1], [(.asl 0 (.var 0)), (.tuple []), (.int .i64 (.lit 0)), (.bool (.lit false)), (.int .i64 (.lit 0)), (.int .i64 (.lit 0)), (.tuple []), (.tuple []), (.asl 0 (.var 0)), (.int .i64 (.var 0)), (.int .i64 (.bin .mulI (.lit 2) (.var 0))), (.int .i64 (.lit 0)), (.tuple []), (.tuple []), (.tuple []), (.tuple []), (.tuple []), (.tuple []), (.tuple []), (.tuple []), (.tuple []), (.tuple []), (.tuple []), (.tuple []), (.tuple []), (.tuple []), (.tuple []), (.tuple []), (.tuple []), (.tuple []), (.tuple []), (.tuple []), (.tuple []), (.tuple []), (.tuple []), (.tuple []), (.tuple []), (.tuple []), (.tuple []), (.tuple []), (.tuple []), (.tuple [])], [(some ⟨[], 61, true, false, (some ⟨(.var 0), [(.int .i64), (.int .i64), (.int .i64), (.int .i64), (.int .i64)], [(.avar 0), (.avar 1), (.avar 2), (.avar 3), (.avar 4)]⟩)⟩)], [], [(.asl 0 (.var 0)), (.tuple []), (.int .i64 (.lit 0)), (.bool (.lit false)), (.int .i64 (.var 4)), (.int .i64 (.var 2)), (.any 6), (.any 7), (.asl 0 (.var 0)), (.int .i64 (.var 0)), (.int .i64 (.bin .mulI (.lit 2) (.var 0))), (.int .i64 (.var 3)), (.any 12), (.any 13), (.any 14), (.any 15), (.any 16), (.any 17), (.any 18), (.any 19), (.any 20), (.any 21), (.any 22), (.any 23), (.any 24), (.any 25), (.any 26), (.any 27), (.any 28), (.any 29), (.any 30), (.any 31), (.any 32), (.any 33), (.any 34), (.any 35), (.any 36), (.any 37), (.any 38), (.tuple []), (.tuple []), (.tuple [])], [(some ⟨[], 61, true, false, (some ⟨(.var 0), [(.int .i64), (.int .i64), (.int .i64), (.int .i64), (.int .i64)], [(.avar 0), (.avar 1), (.avar 2), (.avar 3), (.avar 4)]⟩)⟩)], [], ⟨3, 0, 0⟩, ⟨[(.lit 0), (.lit 0), (.lit 0)], [], []⟩, []⟩
   (.rng 2 (-9223372036854775808) 9223372036854775807 (.rng 3 0 16 (.rng 4 (-9223372036854775808) 9223372036854775807 (.ite (.icmp .leq (.bin .mulI (.lit 2) (.var 0)) (.var 3))
    (.out 0 ⟨[(.var 4), (.var 2)], [], []⟩ [])
    (.ite (.icmp .leq (.var 0) (.bin .quoI (.var 3) (.lit 2)))
     .nil
     (.ite (.icmp .eql (.bin .remK (.var 3) (.lit 2)) (.lit 0))
      (.ite (.icmp .leq (.bin (.subW .i64) (.sel (.avar 1) (.bin .quoI (.var 3) (.lit 2))) (.sel (.avar 0) (.bin .quoI (.var 3) (.lit 2)))) (.var 2))
       (.next ⟨[(.var 2), (.bin .addI (.var 3) (.lit 1)), (.var 4)], [], []⟩ [])
       (.next ⟨[(.bin (.subW .i64) (.sel (.avar 1) (.bin .quoI (.var 3) (.lit 2))) (.sel (.avar 0) (.bin .quoI (.var 3) (.lit 2)))), (.bin .addI (.var 3) (.lit 1)), (.var 3)], [], []⟩ []))
      (.ite (.icmp .leq (.bin (.subW .i64) (.sel (.avar 3) (.bin .quoI (.var 3) (.lit 2))) (.sel (.avar 2) (.bin .quoI (.var 3) (.lit 2)))) (.var 2))
       (.next ⟨[(.var 2), (.bin .addI (.var 3) (.lit 1)), (.var 4)], [], []⟩ [])
       (.next ⟨[(.bin (.subW .i64) (.sel (.avar 3) (.bin .quoI (.var 3) (.lit 2))) (.sel (.avar 2) (.bin .quoI (.var 3) (.lit 2)))), (.bin .addI (.var 3) (.lit 1)), (.var 3)], [], []⟩ []))))))))
   (.ex ((.exit 0), [(.asl 0 (.var 0)), (.tuple []), (.int .i64 (.lit 0)), (.bool (.lit false)), (.int .i64 (.var 2)), (.int .i64 (.var 3)), (.any 6), (.any 7), (.asl 0 (.var 0)), (.int .i64 (.var 0)), (.int .i64 (.bin .mulI (.lit 2) (.var 0))), (.any 11), (.any 12), (.any 13), (.any 14), (.any 15), (.any 16), (.any 17), (.any 18), (.any 19), (.any 20), (.any 21), (.any 22), (.any 23), (.any 24), (.any 25), (.any 26), (.any 27), (.any 28), (.any 29), (.any 30), (.any 31), (.any 32), (.any 33), (.any 34), (.any 35), (.any 36), (.any 37), (.any 38), (.tuple []), (.tuple []), (.tuple [])], [(some ⟨[], 61, true, false, (some ⟨(.var 0), [(.int .i64), (.int .i64), (.int .i64), (.int .i64), (.int .i64)], [(.avar 0), (.avar 1), (.avar 2), (.avar 3), (.avar 4)]⟩)⟩)], []) ⟨2, 0, 0⟩
   (.rng 2 (-9223372036854775808) 9223372036854775807 (.rng 3 (-9223372036854775808) 9223372036854775807 (.ite (.icmp .leq (.var 3) (.lit 0))
    (.ret ⟨[(.lit 0), (.lit 17)], [], []⟩ [])
    (.ret ⟨[(.var 2), (.lit 0)], [], []⟩ []))))
   .nil))
  (.ret ⟨[(.lit 0), (.var 1)], [], []⟩ [])))
theorem wd {x0 : Int} {f0 f1 f2 f3 f4 : Int → Int} (r0 : 0 ≤ x0 ∧ x0 ≤ 8) (s0 : ∀ q, (-9223372036854775808) ≤ f0 q ∧ f0 q ≤ 9223372036854775807) (s1 : ∀ q, (-9223372036854775808) ≤ f1 q ∧ f1 q ≤ 9223372036854775807) (s2 : ∀ q, (-9223372036854775808) ≤ f2 q ∧ f2 q ≤ 9223372036854775807) (s3 : ∀ q, (-9223372036854775808) ≤ f3 q ∧ f3 q ≤ 9223372036854775807) (s4 : ∀ q, (-9223372036854775808) ≤ f4 q ∧ f4 q ≤ 9223372036854775807) {R : Int → Int → Prop}
  (H : (∃ v1 : Int, Spec Tryz.prog fit_checkBoxes_s ⟨[x0], [], [f0, f1, f2, f3, f4]⟩ [v1] [] [] ∧
   ((((v1 : Int) == 0) = true → (∃ (I2 : Int → Int → Int → Prop) (rk2 : Int → Int → Int → Nat), I2 (0) (0) (0) ∧
    (∀ x2 : Int, ∀ x3 : Int, ∀ x4 : Int, I2 x2 x3 x4 → (((-9223372036854775808) ≤ (x2 : Int) ∧ (x2 : Int) ≤ 9223372036854775807) ∧ ((0 ≤ (x3 : Int) ∧ (x3 : Int) ≤ 16) ∧ (((-9223372036854775808) ≤ (x4 : Int) ∧ (x4 : Int) ≤ 9223372036854775807) ∧ ((decide (((2 * x0) : Int) ≤ x3) = true → (((-9223372036854775808) ≤ ((x4) : Int) ∧ ((x4) : Int) ≤ 9223372036854775807) ∧ (((-9223372036854775808) ≤ ((x2) : Int) ∧ ((x2) : Int) ≤ 9223372036854775807) ∧ ((decide (((x2) : Int) ≤ 0) = true → R (0) (17)) ∧
     (decide (((x2) : Int) ≤ 0) = false → R ((x4)) (0)))))) ∧
     (decide (((2 * x0) : Int) ≤ x3) = false → ((decide ((x0 : Int) ≤ ((x3 : Int).tdiv 2)) = true → False) ∧
      (decide ((x0 : Int) ≤ ((x3 : Int).tdiv 2)) = false → ((((((x3 : Int).tmod 2) : Int) == 0) = true → ((decide ((IntKind.i64.wrap ((f1 ((x3 : Int).tdiv 2)) - (f0 ((x3 : Int).tdiv 2))) : Int) ≤ x2) = true → (I2 (x2) ((x3 + 1)) (x4) ∧ rk2 (x2) ((x3 + 1)) (x4) < rk2 x2 x3 x4)) ∧
        (decide ((IntKind.i64.wrap ((f1 ((x3 : Int).tdiv 2)) - (f0 ((x3 : Int).tdiv 2))) : Int) ≤ x2) = false → (I2 (IntKind.i64.wrap ((f1 ((x3 : Int).tdiv 2)) - (f0 ((x3 : Int).tdiv 2)))) ((x3 + 1)) (x3) ∧ rk2 (IntKind.i64.wrap ((f1 ((x3 : Int).tdiv 2)) - (f0 ((x3 : Int).tdiv 2)))) ((x3 + 1)) (x3) < rk2 x2 x3 x4)))) ∧
       (((((x3 : Int).tmod 2) : Int) == 0) = false → ((decide ((IntKind.i64.wrap ((f3 ((x3 : Int).tdiv 2)) - (f2 ((x3 : Int).tdiv 2))) : Int) ≤ x2) = true → (I2 (x2) ((x3 + 1)) (x4) ∧ rk2 (x2) ((x3 + 1)) (x4) < rk2 x2 x3 x4)) ∧
        (decide ((IntKind.i64.wrap ((f3 ((x3 : Int).tdiv 2)) - (f2 ((x3 : Int).tdiv 2))) : Int) ≤ x2) = false → (I2 (IntKind.i64.wrap ((f3 ((x3 : Int).tdiv 2)) - (f2 ((x3 : Int).tdiv 2)))) ((x3 + 1)) (x3) ∧ rk2 (IntKind.i64.wrap ((f3 ((x3 : Int).tdiv 2)) - (f2 ((x3 : Int).tdiv 2)))) ((x3 + 1)) (x3) < rk2 x2 x3 x4))))))))))))))) ∧
   (((v1 : Int) == 0) = false → R (0) (v1))))) :
    ∃ v0 : Int, ∃ v1 : Int, R v0 v1 ∧ Spec Tryz.prog fit_Widest_s ⟨[x0], [], [f0, f1, f2, f3, f4]⟩ [v0, v1] [] [] :=
  Eq.mp (by kernel_rfl) (exV_of (K := fun d => app3 fit_Widest_s.out R d ∧ Spec Tryz.prog fit_Widest_s ⟨[x0], [], [f0, f1, f2, f3, f4]⟩ d.1 d.2.1 d.2.2) (tree_at mixed names S1_ok (S := S1 Tryz.prog) (lf := 100000) (d := 60) fit_Widest_s wd_t { ivs := [(0, 0, 8)], aivs := [(0, (-9223372036854775808), 9223372036854775807), (1, (-9223372036854775808), 9223372036854775807), (2, (-9223372036854775808), 9223372036854775807), (3, (-9223372036854775808), 9223372036854775807), (4, (-9223372036854775808), 9223372036854775807)] } ⟨[x0], [], [f0, f1, f2, f3, f4]⟩ rfl (by kernel_rfl) (by kernel_rfl) (by kernel_rfl) ⟨(fc r0 fz), fz, (fc s0 (fc s1 (fc s2 (fc s3 (fc s4 fz))))), fz⟩ (R := fun d => app3 fit_Widest_s.out R d) (Eq.mp (by kernel_rfl) H)))

def rwd_t : Tr :=
  (.loop ⟨9, [0, 1, 0, 1, 1], [(.asl 0 (.var 0)), (.tuple []), (.int .i64 (.lit 0)), (.int .i64 (.lit 0)), (.int .i64 (.lit 0)), (.int .i64 (.lit 0)), (.int .i64 (.lit 0)), (.tuple []), (.tuple []), (.tuple []), (.tuple []), (.tuple []), (.tuple []), (.tuple []), (.tuple []), (.tuple []), (.tuple []), (.tuple []), (.tuple []), (.tuple []), (.tuple []), (.tuple []), (.tuple []), (.tuple []), (.tuple []), (.tuple []), (.tuple []), (.tuple []), (.tuple []), (.tuple []), (.tuple []), (.tuple []), (.tuple []), (.tuple [])], [(some ⟨[], 61, true, false, (some ⟨(.var 0), [(.int .i64), (.int .i64), (.int .i64), (.int .i64), (.int .i64)], [(.avar 0), (.avar 1), (.avar 2), (.avar 3), (.avar 4)]⟩)⟩)], [], [(.asl 0 (.var 0)), (.tuple []), (.int .i64 (.lit 0)), (.int .i64 (.lit 0)), (.int .i64 (.var 3)), (.int .i64 (.var 1)), (.int .i64 (.var 2)), (.any 7), (.any 8), (.any 9), (.any 10), (.any 11), (.any 12), (.any 13), (.any 14), (.any 15), (.any 16), (.any 17), (.any 18), (.any 19), (.any 20), (.any 21), (.any 22), (.any 23), (.any 24), (.any 25), (.any 26), (.any 27), (.any 28), (.any 29), (.any 30), (.tuple []), (.tuple []), (.tuple [])], [(some ⟨[], 61, true, false, (some ⟨(.var 0), [(.int .i64), (.int .i64), (.int .i64), (.int .i64), (.int .i64)], [(.avar 0), (.avar 1), (.avar 2), (.avar 3), (.avar 4)]⟩)⟩)], [], ⟨3, 0, 0⟩, ⟨[(.lit 0), (.lit 0), (.lit 0)], [], []⟩, []⟩
  (.rng 1 (-9223372036854775808) 9223372036854775807 (.rng 2 0 16 (.rng 3 (-9223372036854775808) 9223372036854775807 (.ite (.icmp .leq (.bin .mulI (.lit 2) (.var 0)) (.var 2))
   (.out 0 ⟨[(.var 3), (.var 1)], [], []⟩ [])
   (.ite (.icmp .eql (.bin .remK (.var 2) (.lit 2)) (.lit 0))
    (.ite (.icmp .leq (.var 0) (.bin .quoI (.var 2) (.lit 2)))
     .nil
     (.ite (.icmp .leq (.bin (.subW .i64) (.sel (.avar 1) (.bin .quoI (.var 2) (.lit 2))) (.sel (.avar 0) (.bin .quoI (.var 2) (.lit 2)))) (.var 1))
      (.next ⟨[(.var 1), (.bin .addI (.var 2) (.lit 1)), (.var 3)], [], []⟩ [])
      (.next ⟨[(.bin (.subW .i64) (.sel (.avar 1) (.bin .quoI (.var 2) (.lit 2))) (.sel (.avar 0) (.bin .quoI (.var 2) (.lit 2)))), (.bin .addI (.var 2) (.lit 1)), (.var 2)], [], []⟩ [])))
    (.ite (.icmp .leq (.var 0) (.bin .quoI (.var 2) (.lit 2)))
     .nil
     (.ite (.icmp .leq (.bin (.subW .i64) (.sel (.avar 3) (.bin .quoI (.var 2) (.lit 2))) (.sel (.avar 2) (.bin .quoI (.var 2) (.lit 2)))) (.var 1))
      (.next ⟨[(.var 1), (.bin .addI (.var 2) (.lit 1)), (.var 3)], [], []⟩ [])
      (.next ⟨[(.bin (.subW .i64) (.sel (.avar 3) (.bin .quoI (.var 2) (.lit 2))) (.sel (.avar 2) (.bin .quoI (.var 2) (.lit 2)))), (.bin .addI (.var 2) (.lit 1)), (.var 2)], [], []⟩ []))))))))
  (.ex ((.exit 0), [(.asl 0 (.var 0)), (.tuple []), (.int .i64 (.lit 0)), (.int .i64 (.lit 0)), (.int .i64 (.var 1)), (.int .i64 (.var 2)), (.any 6), (.any 7), (.any 8), (.any 9), (.any 10), (.any 11), (.any 12), (.any 13), (.any 14), (.any 15), (.any 16), (.any 17), (.any 18), (.any 19), (.any 20), (.any 21), (.any 22), (.any 23), (.any 24), (.any 25), (.any 26), (.any 27), (.any 28), (.any 29), (.any 30), (.tuple []), (.tuple []), (.tuple [])], [(some ⟨[], 61, true, false, (some ⟨(.var 0), [(.int .i64), (.int .i64), (.int .i64), (.int .i64), (.int .i64)], [(.avar 0), (.avar 1), (.avar 2), (.avar 3), (.avar 4)]⟩)⟩)], []) ⟨2, 0, 0⟩
  (.rng 1 (-9223372036854775808) 9223372036854775807 (.rng 2 (-9223372036854775808) 9223372036854775807 (.ite (.icmp .eql (.var 2) (.lit 0))
   (.ret ⟨[(.lit 0), (.lit 17)], [], []⟩ [])
   (.ret ⟨[(.var 1), (.lit 0)], [], []⟩ []))))
  .nil))
theorem rwd {x0 : Int} {f0 f1 f2 f3 f4 : Int → Int} (r0 : 0 ≤ x0 ∧ x0 ≤ 8) (s0 : ∀ q, (-9223372036854775808) ≤ f0 q ∧ f0 q ≤ 9223372036854775807) (s1 : ∀ q, (-9223372036854775808) ≤ f1 q ∧ f1 q ≤ 9223372036854775807) (s2 : ∀ q, (-9223372036854775808) ≤ f2 q ∧ f2 q ≤ 9223372036854775807) (s3 : ∀ q, (-9223372036854775808) ≤ f3 q ∧ f3 q ≤ 9223372036854775807) (s4 : ∀ q, (-9223372036854775808) ≤ f4 q ∧ f4 q ≤ 9223372036854775807) {R : Int → Int → Prop}
  (H : (∃ (I1 : Int → Int → Int → Prop) (rk1 : Int → Int → Int → Nat), I1 (0) (0) (0) ∧
   (∀ x1 : Int, ∀ x2 : Int, ∀ x3 : Int, I1 x1 x2 x3 → (((-9223372036854775808) ≤ (x1 : Int) ∧ (x1 : Int) ≤ 9223372036854775807) ∧ ((0 ≤ (x2 : Int) ∧ (x2 : Int) ≤ 16) ∧ (((-9223372036854775808) ≤ (x3 : Int) ∧ (x3 : Int) ≤ 9223372036854775807) ∧ ((decide (((2 * x0) : Int) ≤ x2) = true → (((-9223372036854775808) ≤ ((x3) : Int) ∧ ((x3) : Int) ≤ 9223372036854775807) ∧ (((-9223372036854775808) ≤ ((x1) : Int) ∧ ((x1) : Int) ≤ 9223372036854775807) ∧ (((((x1) : Int) == 0) = true → R (0) (17)) ∧
    ((((x1) : Int) == 0) = false → R ((x3)) (0)))))) ∧
    (decide (((2 * x0) : Int) ≤ x2) = false → ((((((x2 : Int).tmod 2) : Int) == 0) = true → ((decide ((x0 : Int) ≤ ((x2 : Int).tdiv 2)) = true → False) ∧
      (decide ((x0 : Int) ≤ ((x2 : Int).tdiv 2)) = false → ((decide ((IntKind.i64.wrap ((f1 ((x2 : Int).tdiv 2)) - (f0 ((x2 : Int).tdiv 2))) : Int) ≤ x1) = true → (I1 (x1) ((x2 + 1)) (x3) ∧ rk1 (x1) ((x2 + 1)) (x3) < rk1 x1 x2 x3)) ∧
       (decide ((IntKind.i64.wrap ((f1 ((x2 : Int).tdiv 2)) - (f0 ((x2 : Int).tdiv 2))) : Int) ≤ x1) = false → (I1 (IntKind.i64.wrap ((f1 ((x2 : Int).tdiv 2)) - (f0 ((x2 : Int).tdiv 2)))) ((x2 + 1)) (x2) ∧ rk1 (IntKind.i64.wrap ((f1 ((x2 : Int).tdiv 2)) - (f0 ((x2 : Int).tdiv 2)))) ((x2 + 1)) (x2) < rk1 x1 x2 x3)))))) ∧
     (((((x2 : Int).tmod 2) : Int) == 0) = false → ((decide ((x0 : Int) ≤ ((x2 : Int).tdiv 2)) = true → False) ∧
      (decide ((x0 : Int) ≤ ((x2 : Int).tdiv 2)) = false → ((decide ((IntKind.i64.wrap ((f3 ((x2 : Int).tdiv 2)) - (f2 ((x2 : Int).tdiv 2))) : Int) ≤ x1) = true → (I1 (x1) ((x2 + 1)) (x3) ∧ rk1 (x1) ((x2 + 1)) (x3) < rk1 x1 x2 x3)) ∧
       (decide ((IntKind.i64.wrap ((f3 ((x2 : Int).tdiv 2)) - (f2 ((x2 : Int).tdiv 2))) : Int) ≤ x1) = false → (I1 (IntKind.i64.wrap ((f3 ((x2 : Int).tdiv 2)) - (f2 ((x2 : Int).tdiv 2)))) ((x2 + 1)) (x2) ∧ rk1 (IntKind.i64.wrap ((f3 ((x2 : Int).tdiv 2)) - (f2 ((x2 : Int).tdiv 2)))) ((x2 + 1)) (x2) < rk1 x1 x2 x3))))))))))))))) :
    ∃ v0 : Int, ∃ v1 : Int, R v0 v1 ∧ Spec Tryz.prog etalonref07_Widest_s ⟨[x0], [], [f0, f1, f2, f3, f4]⟩ [v0, v1] [] [] :=
  Eq.mp (by kernel_rfl) (exV_of (K := fun d => app3 etalonref07_Widest_s.out R d ∧ Spec Tryz.prog etalonref07_Widest_s ⟨[x0], [], [f0, f1, f2, f3, f4]⟩ d.1 d.2.1 d.2.2) (tree_at mixed names S1_ok (S := S1 Tryz.prog) (lf := 100000) (d := 60) etalonref07_Widest_s rwd_t { ivs := [(0, 0, 8)], aivs := [(0, (-9223372036854775808), 9223372036854775807), (1, (-9223372036854775808), 9223372036854775807), (2, (-9223372036854775808), 9223372036854775807), (3, (-9223372036854775808), 9223372036854775807), (4, (-9223372036854775808), 9223372036854775807)] } ⟨[x0], [], [f0, f1, f2, f3, f4]⟩ rfl (by kernel_rfl) (by kernel_rfl) (by kernel_rfl) ⟨(fc r0 fz), fz, (fc s0 (fc s1 (fc s2 (fc s3 (fc s4 fz))))), fz⟩ (R := fun d => app3 etalonref07_Widest_s.out R d) (Eq.mp (by kernel_rfl) H)))

def cu_t : Tr :=
  (.call fit_checkBoxes_s ⟨[(.var 0)], [], [(.avar 0), (.avar 1), (.avar 2), (.avar 3), (.avar 4)]⟩ ⟨[(.var 0), (.var 2)], [], [(.avar 0), (.avar 1), (.avar 2), (.avar 3), (.avar 4)]⟩ ⟨17, [(.asl 0 (.var 0))], [0], [(some ⟨[], 61, true, false, (some ⟨(.var 0), [(.int .i64), (.int .i64), (.int .i64), (.int .i64), (.int .i64)], [(.avar 0), (.avar 1), (.avar 2), (.avar 3), (.avar 4)]⟩)⟩), none], (.int .i64 (.var 2)), []⟩
  (.ite (.icmp .eql (.var 2) (.lit 0))
  (.ite (.icmp .leq (.lit 0) (.var 1))
   (.ite (.icmp .leq (.var 1) (.bin .subI (.bin .mulI (.lit 2) (.var 0)) (.lit 1)))
    (.ite (.icmp .leq (.var 0) (.bin .quoI (.var 1) (.lit 2)))
     .nil
     (.ite (.icmp .eql (.bin .remK (.var 1) (.lit 2)) (.lit 0))
      (.ite (.icmp .eql (.sel (.avar 0) (.bin .quoI (.var 1) (.lit 2))) (.sel (.avar 1) (.bin .quoI (.var 1) (.lit 2))))
       (.ret ⟨[(.lit 0), (.lit 0), (.lit 24)], [], [(.acst (.lit 0)), (.acst (.lit 0)), (.acst (.lit 0)), (.acst (.lit 0)), (.acst (.lit 0)), (.acst (.lit 0)), (.acst (.lit 0)), (.acst (.lit 0)), (.acst (.lit 0)), (.acst (.lit 0))]⟩ [1, 2])
       (.ret ⟨[(.var 0), (.var 0), (.lit 0)], [], [(.avar 0), (.aupd (.avar 1) (.bin .quoI (.var 1) (.lit 2)) (.bin .quoI (.bin (.addW .i64) (.sel (.avar 0) (.bin .quoI (.var 1) (.lit 2))) (.sel (.avar 1) (.bin .quoI (.var 1) (.lit 2)))) (.lit 2))), (.avar 2), (.avar 3), (.avar 4), (.aupd (.avar 0) (.bin .quoI (.var 1) (.lit 2)) (.bin .addI (.bin .quoI (.bin (.addW .i64) (.sel (.avar 0) (.bin .quoI (.var 1) (.lit 2))) (.sel (.avar 1) (.bin .quoI (.var 1) (.lit 2)))) (.lit 2)) (.lit 1))), (.avar 1), (.avar 2), (.avar 3), (.avar 4)]⟩ [4, 6]))
      (.ite (.icmp .eql (.sel (.avar 2) (.bin .quoI (.var 1) (.lit 2))) (.sel (.avar 3) (.bin .quoI (.var 1) (.lit 2))))
       (.ret ⟨[(.lit 0), (.lit 0), (.lit 24)], [], [(.acst (.lit 0)), (.acst (.lit 0)), (.acst (.lit 0)), (.acst (.lit 0)), (.acst (.lit 0)), (.acst (.lit 0)), (.acst (.lit 0)), (.acst (.lit 0)), (.acst (.lit 0)), (.acst (.lit 0))]⟩ [1, 2])
       (.ret ⟨[(.var 0), (.var 0), (.lit 0)], [], [(.avar 0), (.avar 1), (.avar 2), (.aupd (.avar 3) (.bin .quoI (.var 1) (.lit 2)) (.bin .quoI (.bin (.addW .i64) (.sel (.avar 2) (.bin .quoI (.var 1) (.lit 2))) (.sel (.avar 3) (.bin .quoI (.var 1) (.lit 2)))) (.lit 2))), (.avar 4), (.avar 0), (.avar 1), (.aupd (.avar 2) (.bin .quoI (.var 1) (.lit 2)) (.bin .addI (.bin .quoI (.bin (.addW .i64) (.sel (.avar 2) (.bin .quoI (.var 1) (.lit 2))) (.sel (.avar 3) (.bin .quoI (.var 1) (.lit 2)))) (.lit 2)) (.lit 1))), (.avar 3), (.avar 4)]⟩ [4, 6]))))
    (.ret ⟨[(.lit 0), (.lit 0), (.lit 6)], [], [(.acst (.lit 0)), (.acst (.lit 0)), (.acst (.lit 0)), (.acst (.lit 0)), (.acst (.lit 0)), (.acst (.lit 0)), (.acst (.lit 0)), (.acst (.lit 0)), (.acst (.lit 0)), (.acst (.lit 0))]⟩ [1, 2]))
   (.ret ⟨[(.lit 0), (.lit 0), (.lit 6)], [], [(.acst (.lit 0)), (.acst (.lit 0)), (.acst (.lit 0)), (.acst (.lit 0)), (.acst (.lit 0)), (.acst (.lit 0)), (.acst (.lit 0)), (.acst (.lit 0)), (.acst (.lit 0)), (.acst (.lit 0))]⟩ [1, 2]))
  (.ret ⟨[(.lit 0), (.lit 0), (.var 2)], [], [(.acst (.lit 0)), (.acst (.lit 0)), (.acst (.lit 0)), (.acst (.lit 0)), (.acst (.lit 0)), (.acst (.lit 0)), (.acst (.lit 0)), (.acst (.lit 0)), (.acst (.lit 0)), (.acst (.lit 0))]⟩ [1, 2])))
theorem cu {x0 x1 : Int} {f0 f1 f2 f3 f4 : Int → Int} (r0 : 1 ≤ x0 ∧ x0 ≤ 8) (r1 : (-9223372036854775808) ≤ x1 ∧ x1 ≤ 9223372036854775807) (s0 : ∀ q, (-9223372036854775808) ≤ f0 q ∧ f0 q ≤ 9223372036854775807) (s1 : ∀ q, (-9223372036854775808) ≤ f1 q ∧ f1 q ≤ 9223372036854775807) (s2 : ∀ q, (-9223372036854775808) ≤ f2 q ∧ f2 q ≤ 9223372036854775807) (s3 : ∀ q, (-9223372036854775808) ≤ f3 q ∧ f3 q ≤ 9223372036854775807) (s4 : ∀ q, (-9223372036854775808) ≤ f4 q ∧ f4 q ≤ 9223372036854775807) {R : Int → Int → Int → (Int → Int) → (Int → Int) → (Int → Int) → (Int → Int) → (Int → Int) → (Int → Int) → (Int → Int) → (Int → Int) → (Int → Int) → (Int → Int) → Prop}
  (H : (∃ v2 : Int, Spec Tryz.prog fit_checkBoxes_s ⟨[x0], [], [f0, f1, f2, f3, f4]⟩ [v2] [] [] ∧
   ((((v2 : Int) == 0) = true → ((decide ((0 : Int) ≤ x1) = true → ((decide ((x1 : Int) ≤ ((2 * x0) - 1)) = true → ((decide ((x0 : Int) ≤ ((x1 : Int).tdiv 2)) = true → False) ∧
      (decide ((x0 : Int) ≤ ((x1 : Int).tdiv 2)) = false → ((((((x1 : Int).tmod 2) : Int) == 0) = true → (((((f0 ((x1 : Int).tdiv 2)) : Int) == (f1 ((x1 : Int).tdiv 2))) = true → R (0) (0) (24) ((fun _ => 0)) ((fun _ => 0)) ((fun _ => 0)) ((fun _ => 0)) ((fun _ => 0)) ((fun _ => 0)) ((fun _ => 0)) ((fun _ => 0)) ((fun _ => 0)) ((fun _ => 0))) ∧
        ((((f0 ((x1 : Int).tdiv 2)) : Int) == (f1 ((x1 : Int).tdiv 2))) = false → R (x0) (x0) (0) (f0) ((fun q => if q = ((x1 : Int).tdiv 2) then ((IntKind.i64.wrap ((f0 ((x1 : Int).tdiv 2)) + (f1 ((x1 : Int).tdiv 2))) : Int).tdiv 2) else f1 q)) (f2) (f3) (f4) ((fun q => if q = ((x1 : Int).tdiv 2) then (((IntKind.i64.wrap ((f0 ((x1 : Int).tdiv 2)) + (f1 ((x1 : Int).tdiv 2))) : Int).tdiv 2) + 1) else f0 q)) (f1) (f2) (f3) (f4)))) ∧
       (((((x1 : Int).tmod 2) : Int) == 0) = false → (((((f2 ((x1 : Int).tdiv 2)) : Int) == (f3 ((x1 : Int).tdiv 2))) = true → R (0) (0) (24) ((fun _ => 0)) ((fun _ => 0)) ((fun _ => 0)) ((fun _ => 0)) ((fun _ => 0)) ((fun _ => 0)) ((fun _ => 0)) ((fun _ => 0)) ((fun _ => 0)) ((fun _ => 0))) ∧
        ((((f2 ((x1 : Int).tdiv 2)) : Int) == (f3 ((x1 : Int).tdiv 2))) = false → R (x0) (x0) (0) (f0) (f1) (f2) ((fun q => if q = ((x1 : Int).tdiv 2) then ((IntKind.i64.wrap ((f2 ((x1 : Int).tdiv 2)) + (f3 ((x1 : Int).tdiv 2))) : Int).tdiv 2) else f3 q)) (f4) (f0) (f1) ((fun q => if q = ((x1 : Int).tdiv 2) then (((IntKind.i64.wrap ((f2 ((x1 : Int).tdiv 2)) + (f3 ((x1 : Int).tdiv 2))) : Int).tdiv 2) + 1) else f2 q)) (f3) (f4)))))))) ∧
     (decide ((x1 : Int) ≤ ((2 * x0) - 1)) = false → R (0) (0) (6) ((fun _ => 0)) ((fun _ => 0)) ((fun _ => 0)) ((fun _ => 0)) ((fun _ => 0)) ((fun _ => 0)) ((fun _ => 0)) ((fun _ => 0)) ((fun _ => 0)) ((fun _ => 0))))) ∧
    (decide ((0 : Int) ≤ x1) = false → R (0) (0) (6) ((fun _ => 0)) ((fun _ => 0)) ((fun _ => 0)) ((fun _ => 0)) ((fun _ => 0)) ((fun _ => 0)) ((fun _ => 0)) ((fun _ => 0)) ((fun _ => 0)) ((fun _ => 0))))) ∧
   (((v2 : Int) == 0) = false → R (0) (0) (v2) ((fun _ => 0)) ((fun _ => 0)) ((fun _ => 0)) ((fun _ => 0)) ((fun _ => 0)) ((fun _ => 0)) ((fun _ => 0)) ((fun _ => 0)) ((fun _ => 0)) ((fun _ => 0)))))) :
    ∃ v0 : Int, ∃ v1 : Int, ∃ v2 : Int, ∃ g0 : Int → Int, ∃ g1 : Int → Int, ∃ g2 : Int → Int, ∃ g3 : Int → Int, ∃ g4 : Int → Int, ∃ g5 : Int → Int, ∃ g6 : Int → Int, ∃ g7 : Int → Int, ∃ g8 : Int → Int, ∃ g9 : Int → Int, R v0 v1 v2 g0 g1 g2 g3 g4 g5 g6 g7 g8 g9 ∧ Spec Tryz.prog fit_CutOf_s ⟨[x0, x1], [], [f0, f1, f2, f3, f4]⟩ [v0, v1, v2] [] [g0, g1, g2, g3, g4, g5, g6, g7, g8, g9] :=
  Eq.mp (by kernel_rfl) (exV_of (K := fun d => app3 fit_CutOf_s.out R d ∧ Spec Tryz.prog fit_CutOf_s ⟨[x0, x1], [], [f0, f1, f2, f3, f4]⟩ d.1 d.2.1 d.2.2) (tree_at mixed names S1_ok (S := S1 Tryz.prog) (lf := 100000) (d := 60) fit_CutOf_s cu_t { ivs := [(0, 1, 8), (1, (-9223372036854775808), 9223372036854775807)], aivs := [(0, (-9223372036854775808), 9223372036854775807), (1, (-9223372036854775808), 9223372036854775807), (2, (-9223372036854775808), 9223372036854775807), (3, (-9223372036854775808), 9223372036854775807), (4, (-9223372036854775808), 9223372036854775807)] } ⟨[x0, x1], [], [f0, f1, f2, f3, f4]⟩ rfl (by kernel_rfl) (by kernel_rfl) (by kernel_rfl) ⟨(fc r0 (fc r1 fz)), fz, (fc s0 (fc s1 (fc s2 (fc s3 (fc s4 fz))))), fz⟩ (R := fun d => app3 fit_CutOf_s.out R d) (Eq.mp (by kernel_rfl) H)))

def cun_t : Tr :=
  (.call fit_checkBoxes_s ⟨[(.var 0)], [], [(.avar 0), (.avar 1), (.avar 2), (.avar 3), (.avar 4)]⟩ ⟨[(.var 0), (.var 2)], [], [(.avar 0), (.avar 1), (.avar 2), (.avar 3), (.avar 4)]⟩ ⟨17, [(.asl 0 (.var 0))], [0], [(some ⟨[], 61, true, false, (some ⟨(.var 0), [(.int .i64), (.int .i64), (.int .i64), (.int .i64), (.int .i64)], [(.avar 0), (.avar 1), (.avar 2), (.avar 3), (.avar 4)]⟩)⟩), none], (.int .i64 (.var 2)), []⟩
  (.ite (.icmp .eql (.var 2) (.lit 0))
  .nil
  (.ret ⟨[(.lit 0), (.lit 0), (.var 2)], [], [(.acst (.lit 0)), (.acst (.lit 0)), (.acst (.lit 0)), (.acst (.lit 0)), (.acst (.lit 0)), (.acst (.lit 0)), (.acst (.lit 0)), (.acst (.lit 0)), (.acst (.lit 0)), (.acst (.lit 0))]⟩ [1, 2])))
theorem cun {x0 x1 : Int} {f0 f1 f2 f3 f4 : Int → Int} (r0 : 0 ≤ x0 ∧ x0 ≤ 8) (r1 : (-9223372036854775808) ≤ x1 ∧ x1 ≤ 9223372036854775807) (s0 : ∀ q, (-9223372036854775808) ≤ f0 q ∧ f0 q ≤ 9223372036854775807) (s1 : ∀ q, (-9223372036854775808) ≤ f1 q ∧ f1 q ≤ 9223372036854775807) (s2 : ∀ q, (-9223372036854775808) ≤ f2 q ∧ f2 q ≤ 9223372036854775807) (s3 : ∀ q, (-9223372036854775808) ≤ f3 q ∧ f3 q ≤ 9223372036854775807) (s4 : ∀ q, (-9223372036854775808) ≤ f4 q ∧ f4 q ≤ 9223372036854775807) {R : Int → Int → Int → (Int → Int) → (Int → Int) → (Int → Int) → (Int → Int) → (Int → Int) → (Int → Int) → (Int → Int) → (Int → Int) → (Int → Int) → (Int → Int) → Prop}
  (H : (∃ v2 : Int, Spec Tryz.prog fit_checkBoxes_s ⟨[x0], [], [f0, f1, f2, f3, f4]⟩ [v2] [] [] ∧
   ((((v2 : Int) == 0) = true → False) ∧
   (((v2 : Int) == 0) = false → R (0) (0) (v2) ((fun _ => 0)) ((fun _ => 0)) ((fun _ => 0)) ((fun _ => 0)) ((fun _ => 0)) ((fun _ => 0)) ((fun _ => 0)) ((fun _ => 0)) ((fun _ => 0)) ((fun _ => 0)))))) :
    ∃ v0 : Int, ∃ v1 : Int, ∃ v2 : Int, ∃ g0 : Int → Int, ∃ g1 : Int → Int, ∃ g2 : Int → Int, ∃ g3 : Int → Int, ∃ g4 : Int → Int, ∃ g5 : Int → Int, ∃ g6 : Int → Int, ∃ g7 : Int → Int, ∃ g8 : Int → Int, ∃ g9 : Int → Int, R v0 v1 v2 g0 g1 g2 g3 g4 g5 g6 g7 g8 g9 ∧ Spec Tryz.prog fit_CutOf_s ⟨[x0, x1], [], [f0, f1, f2, f3, f4]⟩ [v0, v1, v2] [] [g0, g1, g2, g3, g4, g5, g6, g7, g8, g9] :=
  Eq.mp (by kernel_rfl) (exV_of (K := fun d => app3 fit_CutOf_s.out R d ∧ Spec Tryz.prog fit_CutOf_s ⟨[x0, x1], [], [f0, f1, f2, f3, f4]⟩ d.1 d.2.1 d.2.2) (tree_at mixed names S1_ok (S := S1 Tryz.prog) (lf := 100000) (d := 60) fit_CutOf_s cun_t { ivs := [(0, 0, 8), (1, (-9223372036854775808), 9223372036854775807)], aivs := [(0, (-9223372036854775808), 9223372036854775807), (1, (-9223372036854775808), 9223372036854775807), (2, (-9223372036854775808), 9223372036854775807), (3, (-9223372036854775808), 9223372036854775807), (4, (-9223372036854775808), 9223372036854775807)] } ⟨[x0, x1], [], [f0, f1, f2, f3, f4]⟩ rfl (by kernel_rfl) (by kernel_rfl) (by kernel_rfl) ⟨(fc r0 (fc r1 fz)), fz, (fc s0 (fc s1 (fc s2 (fc s3 (fc s4 fz))))), fz⟩ (R := fun d => app3 fit_CutOf_s.out R d) (Eq.mp (by kernel_rfl) H)))

def rcu_t : Tr :=
  (.ite (.icmp .leq (.lit 0) (.var 1))
  (.ite (.icmp .leq (.var 1) (.bin .subI (.bin .mulI (.lit 2) (.var 0)) (.lit 1)))
   (.ite (.icmp .eql (.bin .remK (.var 1) (.lit 2)) (.lit 0))
    (.ite (.icmp .leq (.var 0) (.bin .quoI (.var 1) (.lit 2)))
     .nil
     (.ite (.icmp .eql (.sel (.avar 0) (.bin .quoI (.var 1) (.lit 2))) (.sel (.avar 1) (.bin .quoI (.var 1) (.lit 2))))
      (.ret ⟨[(.lit 0), (.lit 0), (.lit 24)], [], [(.acst (.lit 0)), (.acst (.lit 0)), (.acst (.lit 0)), (.acst (.lit 0)), (.acst (.lit 0)), (.acst (.lit 0)), (.acst (.lit 0)), (.acst (.lit 0)), (.acst (.lit 0)), (.acst (.lit 0))]⟩ [1, 2])
      (.call etalonbase_Floor_s ⟨[(.bin (.addW .i64) (.sel (.avar 0) (.bin .quoI (.var 1) (.lit 2))) (.sel (.avar 1) (.bin .quoI (.var 1) (.lit 2)))), (.lit 2)], [], []⟩ ⟨[(.bin (.addW .i64) (.sel (.avar 0) (.bin .quoI (.var 1) (.lit 2))) (.sel (.avar 1) (.bin .quoI (.var 1) (.lit 2)))), (.lit 2), (.var 2)], [], []⟩ ⟨24, [(.int .i64 (.bin (.addW .i64) (.sel (.avar 0) (.bin .quoI (.var 1) (.lit 2))) (.sel (.avar 1) (.bin .quoI (.var 1) (.lit 2))))), (.int .i64 (.lit 2))], [], [none, none, none], (.int .i64 (.var 2)), []⟩
       (.ret ⟨[(.var 0), (.var 0), (.lit 0)], [], [(.aupd (.avar 0) (.bin .quoI (.var 1) (.lit 2)) (.sel (.avar 0) (.bin .quoI (.var 1) (.lit 2)))), (.aupd (.avar 1) (.bin .quoI (.var 1) (.lit 2)) (.var 2)), (.avar 2), (.avar 3), (.avar 4), (.aupd (.avar 0) (.bin .quoI (.var 1) (.lit 2)) (.bin (.addW .i64) (.var 2) (.lit 1))), (.aupd (.avar 1) (.bin .quoI (.var 1) (.lit 2)) (.sel (.avar 1) (.bin .quoI (.var 1) (.lit 2)))), (.avar 2), (.avar 3), (.avar 4)]⟩ [5, 8]))))
    (.ite (.icmp .leq (.var 0) (.bin .quoI (.var 1) (.lit 2)))
     .nil
     (.ite (.icmp .eql (.sel (.avar 2) (.bin .quoI (.var 1) (.lit 2))) (.sel (.avar 3) (.bin .quoI (.var 1) (.lit 2))))
      (.ret ⟨[(.lit 0), (.lit 0), (.lit 24)], [], [(.acst (.lit 0)), (.acst (.lit 0)), (.acst (.lit 0)), (.acst (.lit 0)), (.acst (.lit 0)), (.acst (.lit 0)), (.acst (.lit 0)), (.acst (.lit 0)), (.acst (.lit 0)), (.acst (.lit 0))]⟩ [1, 2])
      (.call etalonbase_Floor_s ⟨[(.bin (.addW .i64) (.sel (.avar 2) (.bin .quoI (.var 1) (.lit 2))) (.sel (.avar 3) (.bin .quoI (.var 1) (.lit 2)))), (.lit 2)], [], []⟩ ⟨[(.bin (.addW .i64) (.sel (.avar 2) (.bin .quoI (.var 1) (.lit 2))) (.sel (.avar 3) (.bin .quoI (.var 1) (.lit 2)))), (.lit 2), (.var 2)], [], []⟩ ⟨24, [(.int .i64 (.bin (.addW .i64) (.sel (.avar 2) (.bin .quoI (.var 1) (.lit 2))) (.sel (.avar 3) (.bin .quoI (.var 1) (.lit 2))))), (.int .i64 (.lit 2))], [], [none, none, none], (.int .i64 (.var 2)), []⟩
       (.ret ⟨[(.var 0), (.var 0), (.lit 0)], [], [(.avar 0), (.avar 1), (.aupd (.avar 2) (.bin .quoI (.var 1) (.lit 2)) (.sel (.avar 2) (.bin .quoI (.var 1) (.lit 2)))), (.aupd (.avar 3) (.bin .quoI (.var 1) (.lit 2)) (.var 2)), (.avar 4), (.avar 0), (.avar 1), (.aupd (.avar 2) (.bin .quoI (.var 1) (.lit 2)) (.bin (.addW .i64) (.var 2) (.lit 1))), (.aupd (.avar 3) (.bin .quoI (.var 1) (.lit 2)) (.sel (.avar 3) (.bin .quoI (.var 1) (.lit 2)))), (.avar 4)]⟩ [5, 8])))))
   (.ret ⟨[(.lit 0), (.lit 0), (.lit 6)], [], [(.acst (.lit 0)), (.acst (.lit 0)), (.acst (.lit 0)), (.acst (.lit 0)), (.acst (.lit 0)), (.acst (.lit 0)), (.acst (.lit 0)), (.acst (.lit 0)), (.acst (.lit 0)), (.acst (.lit 0))]⟩ [1, 2]))
  (.ret ⟨[(.lit 0), (.lit 0), (.lit 6)], [], [(.acst (.lit 0)), (.acst (.lit 0)), (.acst (.lit 0)), (.acst (.lit 0)), (.acst (.lit 0)), (.acst (.lit 0)), (.acst (.lit 0)), (.acst (.lit 0)), (.acst (.lit 0)), (.acst (.lit 0))]⟩ [1, 2]))
theorem rcu {x0 x1 : Int} {f0 f1 f2 f3 f4 : Int → Int} (r0 : 1 ≤ x0 ∧ x0 ≤ 8) (r1 : (-9223372036854775808) ≤ x1 ∧ x1 ≤ 9223372036854775807) (s0 : ∀ q, (-9223372036854775808) ≤ f0 q ∧ f0 q ≤ 9223372036854775807) (s1 : ∀ q, (-9223372036854775808) ≤ f1 q ∧ f1 q ≤ 9223372036854775807) (s2 : ∀ q, (-9223372036854775808) ≤ f2 q ∧ f2 q ≤ 9223372036854775807) (s3 : ∀ q, (-9223372036854775808) ≤ f3 q ∧ f3 q ≤ 9223372036854775807) (s4 : ∀ q, (-9223372036854775808) ≤ f4 q ∧ f4 q ≤ 9223372036854775807) {R : Int → Int → Int → (Int → Int) → (Int → Int) → (Int → Int) → (Int → Int) → (Int → Int) → (Int → Int) → (Int → Int) → (Int → Int) → (Int → Int) → (Int → Int) → Prop}
  (H : ((decide ((0 : Int) ≤ x1) = true → ((decide ((x1 : Int) ≤ ((2 * x0) - 1)) = true → ((((((x1 : Int).tmod 2) : Int) == 0) = true → ((decide ((x0 : Int) ≤ ((x1 : Int).tdiv 2)) = true → False) ∧
      (decide ((x0 : Int) ≤ ((x1 : Int).tdiv 2)) = false → (((((f0 ((x1 : Int).tdiv 2)) : Int) == (f1 ((x1 : Int).tdiv 2))) = true → R (0) (0) (24) ((fun _ => 0)) ((fun _ => 0)) ((fun _ => 0)) ((fun _ => 0)) ((fun _ => 0)) ((fun _ => 0)) ((fun _ => 0)) ((fun _ => 0)) ((fun _ => 0)) ((fun _ => 0))) ∧
       ((((f0 ((x1 : Int).tdiv 2)) : Int) == (f1 ((x1 : Int).tdiv 2))) = false → (∃ v2 : Int, Spec Tryz.prog etalonbase_Floor_s ⟨[IntKind.i64.wrap ((f0 ((x1 : Int).tdiv 2)) + (f1 ((x1 : Int).tdiv 2))), 2], [], []⟩ [v2] [] [] ∧
        R (x0) (x0) (0) ((fun q => if q = ((x1 : Int).tdiv 2) then (f0 ((x1 : Int).tdiv 2)) else f0 q)) ((fun q => if q = ((x1 : Int).tdiv 2) then v2 else f1 q)) (f2) (f3) (f4) ((fun q => if q = ((x1 : Int).tdiv 2) then IntKind.i64.wrap (v2 + 1) else f0 q)) ((fun q => if q = ((x1 : Int).tdiv 2) then (f1 ((x1 : Int).tdiv 2)) else f1 q)) (f2) (f3) (f4))))))) ∧
     (((((x1 : Int).tmod 2) : Int) == 0) = false → ((decide ((x0 : Int) ≤ ((x1 : Int).tdiv 2)) = true → False) ∧
      (decide ((x0 : Int) ≤ ((x1 : Int).tdiv 2)) = false → (((((f2 ((x1 : Int).tdiv 2)) : Int) == (f3 ((x1 : Int).tdiv 2))) = true → R (0) (0) (24) ((fun _ => 0)) ((fun _ => 0)) ((fun _ => 0)) ((fun _ => 0)) ((fun _ => 0)) ((fun _ => 0)) ((fun _ => 0)) ((fun _ => 0)) ((fun _ => 0)) ((fun _ => 0))) ∧
       ((((f2 ((x1 : Int).tdiv 2)) : Int) == (f3 ((x1 : Int).tdiv 2))) = false → (∃ v2 : Int, Spec Tryz.prog etalonbase_Floor_s ⟨[IntKind.i64.wrap ((f2 ((x1 : Int).tdiv 2)) + (f3 ((x1 : Int).tdiv 2))), 2], [], []⟩ [v2] [] [] ∧
        R (x0) (x0) (0) (f0) (f1) ((fun q => if q = ((x1 : Int).tdiv 2) then (f2 ((x1 : Int).tdiv 2)) else f2 q)) ((fun q => if q = ((x1 : Int).tdiv 2) then v2 else f3 q)) (f4) (f0) (f1) ((fun q => if q = ((x1 : Int).tdiv 2) then IntKind.i64.wrap (v2 + 1) else f2 q)) ((fun q => if q = ((x1 : Int).tdiv 2) then (f3 ((x1 : Int).tdiv 2)) else f3 q)) (f4))))))))) ∧
    (decide ((x1 : Int) ≤ ((2 * x0) - 1)) = false → R (0) (0) (6) ((fun _ => 0)) ((fun _ => 0)) ((fun _ => 0)) ((fun _ => 0)) ((fun _ => 0)) ((fun _ => 0)) ((fun _ => 0)) ((fun _ => 0)) ((fun _ => 0)) ((fun _ => 0))))) ∧
   (decide ((0 : Int) ≤ x1) = false → R (0) (0) (6) ((fun _ => 0)) ((fun _ => 0)) ((fun _ => 0)) ((fun _ => 0)) ((fun _ => 0)) ((fun _ => 0)) ((fun _ => 0)) ((fun _ => 0)) ((fun _ => 0)) ((fun _ => 0))))) :
    ∃ v0 : Int, ∃ v1 : Int, ∃ v2 : Int, ∃ g0 : Int → Int, ∃ g1 : Int → Int, ∃ g2 : Int → Int, ∃ g3 : Int → Int, ∃ g4 : Int → Int, ∃ g5 : Int → Int, ∃ g6 : Int → Int, ∃ g7 : Int → Int, ∃ g8 : Int → Int, ∃ g9 : Int → Int, R v0 v1 v2 g0 g1 g2 g3 g4 g5 g6 g7 g8 g9 ∧ Spec Tryz.prog etalonref07_CutOf_s ⟨[x0, x1], [], [f0, f1, f2, f3, f4]⟩ [v0, v1, v2] [] [g0, g1, g2, g3, g4, g5, g6, g7, g8, g9] :=
  Eq.mp (by kernel_rfl) (exV_of (K := fun d => app3 etalonref07_CutOf_s.out R d ∧ Spec Tryz.prog etalonref07_CutOf_s ⟨[x0, x1], [], [f0, f1, f2, f3, f4]⟩ d.1 d.2.1 d.2.2) (tree_at mixed names S1_ok (S := S1 Tryz.prog) (lf := 100000) (d := 60) etalonref07_CutOf_s rcu_t { ivs := [(0, 1, 8), (1, (-9223372036854775808), 9223372036854775807)], aivs := [(0, (-9223372036854775808), 9223372036854775807), (1, (-9223372036854775808), 9223372036854775807), (2, (-9223372036854775808), 9223372036854775807), (3, (-9223372036854775808), 9223372036854775807), (4, (-9223372036854775808), 9223372036854775807)] } ⟨[x0, x1], [], [f0, f1, f2, f3, f4]⟩ rfl (by kernel_rfl) (by kernel_rfl) (by kernel_rfl) ⟨(fc r0 (fc r1 fz)), fz, (fc s0 (fc s1 (fc s2 (fc s3 (fc s4 fz))))), fz⟩ (R := fun d => app3 etalonref07_CutOf_s.out R d) (Eq.mp (by kernel_rfl) H)))

/-- The width of a dimension. -/

def wdt (f0 f1 f2 f3 : Int → Int) (d : Int) : Int := if d % 2 = 0 then IntKind.i64.wrap (f1 (d / 2) - f0 (d / 2)) else IntKind.i64.wrap (f3 (d / 2) - f2 (d / 2))

/-- The widest dimension below d, and its width. -/

def wst (f0 f1 f2 f3 : Int → Int) : Nat → Int × Int

  | 0 => (0, 0)

  | d + 1 => if (wst f0 f1 f2 f3 d).2 < wdt f0 f1 f2 f3 d then ((d : Int), wdt f0 f1 f2 f3 d) else wst f0 f1 f2 f3 d

theorem wdt_rng (f0 f1 f2 f3 : Int → Int) (d : Int) : (-9223372036854775808) ≤ wdt f0 f1 f2 f3 d ∧ wdt f0 f1 f2 f3 d ≤ 9223372036854775807 := by

  unfold wdt; rw [IntKind.wrap_i64, IntKind.wrap_i64]; split <;> omega

theorem wst_rng (f0 f1 f2 f3 : Int → Int) : ∀ d : Nat, d ≤ 16 → (0 ≤ (wst f0 f1 f2 f3 d).1 ∧ (wst f0 f1 f2 f3 d).1 ≤ 16) ∧ (0 ≤ (wst f0 f1 f2 f3 d).2 ∧ (wst f0 f1 f2 f3 d).2 ≤ 9223372036854775807)

  | 0, _ => by unfold wst; dsimp only; omega

  | d + 1, h => by

    have k := wst_rng f0 f1 f2 f3 d (by omega)

    have w := wdt_rng f0 f1 f2 f3 d

    unfold wst; split

    · dsimp only; omega

    · exact k

def widD (n : Int) (f0 f1 f2 f3 : Int → Int) : Int := if (wst f0 f1 f2 f3 (2 * n).toNat).2 = 0 then 0 else (wst f0 f1 f2 f3 (2 * n).toNat).1

def widE (n : Int) (f0 f1 f2 f3 : Int → Int) : Int := if (wst f0 f1 f2 f3 (2 * n).toNat).2 = 0 then 17 else 0

theorem tdiv2 {d : Int} (h : 0 ≤ d) : d.tdiv 2 = d / 2 := Int.tdiv_eq_ediv_of_nonneg h

theorem tmod2 {d : Int} (h : 0 ≤ d) : d.tmod 2 = d % 2 := Int.tmod_eq_emod_of_nonneg h

theorem widest_p {x0 : Int} {f0 f1 f2 f3 f4 : Int → Int} (r0 : 0 ≤ x0 ∧ x0 ≤ 8) (s0 : I64r f0) (s1 : I64r f1) (s2 : I64r f2) (s3 : I64r f3) (s4 : I64r f4) :

    Spec Tryz.prog fit_Widest_s ⟨[x0], [], [f0, f1, f2, f3, f4]⟩ [if bxsE x0 f0 f1 f2 f3 f4 = 0 then widD x0 f0 f1 f2 f3 else 0, if bxsE x0 f0 f1 f2 f3 f4 = 0 then widE x0 f0 f1 f2 f3 else bxsE x0 f0 f1 f2 f3 f4] [] [] := by

  have hb := boxes_p (x0 := x0) (by omega) s0 s1 s2 s3 s4

  obtain ⟨a, b, ⟨rfl, rfl⟩, hs⟩ := wd r0 s0 s1 s2 s3 s4 (R := fun a b => a = (if bxsE x0 f0 f1 f2 f3 f4 = 0 then widD x0 f0 f1 f2 f3 else 0) ∧ b = (if bxsE x0 f0 f1 f2 f3 f4 = 0 then widE x0 f0 f1 f2 f3 else bxsE x0 f0 f1 f2 f3 f4)) (by

    refine ⟨_, hb, ?_⟩

    generalize bxsE x0 f0 f1 f2 f3 f4 = e at *

    simp only [decide_eq_true_eq, decide_eq_false_iff_not, beq_iff_eq, beq_eq_false_iff_ne, ne_eq]

    refine ⟨fun he => ?_, fun he => by rw [if_neg he, if_neg he]; exact ⟨rfl, rfl⟩⟩

    rw [if_pos he, if_pos he]

    refine ⟨fun w d m => ∃ k : Nat, d = k ∧ (k : Int) ≤ 2 * x0 ∧ m = (wst f0 f1 f2 f3 k).1 ∧ w = (wst f0 f1 f2 f3 k).2, fun _ d _ => (2 * x0 - d).toNat, ⟨0, rfl, by omega, rfl, rfl⟩, ?_⟩

    rintro w d m ⟨k, rfl, hk, rfl, rfl⟩

    have hr := wst_rng f0 f1 f2 f3 k (by omega)

    refine ⟨by omega, by omega, by omega, fun h => ?_, fun h => ?_⟩

    · have ek : (2 * x0).toNat = k := by omega

      refine ⟨by omega, by omega, fun g => ?_, fun g => ?_⟩

      · unfold widD widE; rw [ek, if_pos (by omega), if_pos (by omega)]; exact ⟨rfl, rfl⟩

      · unfold widD widE; rw [ek, if_neg (by omega), if_neg (by omega)]; exact ⟨rfl, rfl⟩

    · rw [tdiv2 (by omega), tmod2 (by omega)]

      have st : (2 * x0 - ((k : Int) + 1)).toNat < (2 * x0 - (k : Int)).toNat := by omega

      have no : wdt f0 f1 f2 f3 k ≤ (wst f0 f1 f2 f3 k).2 → wst f0 f1 f2 f3 (k + 1) = wst f0 f1 f2 f3 k := fun g => by rw [wst, if_neg (by omega)]

      have yes : ¬ wdt f0 f1 f2 f3 k ≤ (wst f0 f1 f2 f3 k).2 → wst f0 f1 f2 f3 (k + 1) = ((k : Int), wdt f0 f1 f2 f3 k) := fun g => by rw [wst, if_pos (by omega)]

      have stay : wdt f0 f1 f2 f3 k ≤ (wst f0 f1 f2 f3 k).2 → ∃ j : Nat, (k : Int) + 1 = j ∧ (j : Int) ≤ 2 * x0 ∧ (wst f0 f1 f2 f3 k).1 = (wst f0 f1 f2 f3 j).1 ∧ (wst f0 f1 f2 f3 k).2 = (wst f0 f1 f2 f3 j).2 := fun g => ⟨k + 1, by omega, by omega, by rw [no g], by rw [no g]⟩

      have move : ¬ wdt f0 f1 f2 f3 k ≤ (wst f0 f1 f2 f3 k).2 → ∃ j : Nat, (k : Int) + 1 = j ∧ (j : Int) ≤ 2 * x0 ∧ (k : Int) = (wst f0 f1 f2 f3 j).1 ∧ wdt f0 f1 f2 f3 k = (wst f0 f1 f2 f3 j).2 := fun g => ⟨k + 1, by omega, by omega, by rw [yes g], by rw [yes g]⟩

      have even : (k : Int) % 2 = 0 → IntKind.i64.wrap (f1 ((k : Int) / 2) - f0 ((k : Int) / 2)) = wdt f0 f1 f2 f3 k := fun g => by unfold wdt; rw [if_pos g]

      have odd : ¬ (k : Int) % 2 = 0 → IntKind.i64.wrap (f3 ((k : Int) / 2) - f2 ((k : Int) / 2)) = wdt f0 f1 f2 f3 k := fun g => by unfold wdt; rw [if_neg g]

      refine ⟨fun g => by omega, fun _ => ⟨fun ev => ?_, fun od => ?_⟩⟩

      · rw [even ev]; exact ⟨fun g => ⟨stay g, st⟩, fun g => ⟨move g, st⟩⟩

      · rw [odd od]; exact ⟨fun g => ⟨stay g, st⟩, fun g => ⟨move g, st⟩⟩)

  exact hs

theorem widest_r {x0 : Int} {f0 f1 f2 f3 f4 : Int → Int} (r0 : 0 ≤ x0 ∧ x0 ≤ 8) (s0 : I64r f0) (s1 : I64r f1) (s2 : I64r f2) (s3 : I64r f3) (s4 : I64r f4) :

    Spec Tryz.prog etalonref07_Widest_s ⟨[x0], [], [f0, f1, f2, f3, f4]⟩ [widD x0 f0 f1 f2 f3, widE x0 f0 f1 f2 f3] [] [] := by

  obtain ⟨a, b, ⟨rfl, rfl⟩, hs⟩ := rwd r0 s0 s1 s2 s3 s4 (R := fun a b => a = widD x0 f0 f1 f2 f3 ∧ b = widE x0 f0 f1 f2 f3) (by

    simp only [decide_eq_true_eq, decide_eq_false_iff_not, beq_iff_eq, beq_eq_false_iff_ne, ne_eq]

    refine ⟨fun w d m => ∃ k : Nat, d = k ∧ (k : Int) ≤ 2 * x0 ∧ m = (wst f0 f1 f2 f3 k).1 ∧ w = (wst f0 f1 f2 f3 k).2, fun _ d _ => (2 * x0 - d).toNat, ⟨0, rfl, by omega, rfl, rfl⟩, ?_⟩

    rintro w d m ⟨k, rfl, hk, rfl, rfl⟩

    have hr := wst_rng f0 f1 f2 f3 k (by omega)

    refine ⟨by omega, by omega, by omega, fun h => ?_, fun h => ?_⟩

    · have ek : (2 * x0).toNat = k := by omega

      refine ⟨by omega, by omega, fun g => ?_, fun g => ?_⟩

      · unfold widD widE; rw [ek, if_pos (by omega), if_pos (by omega)]; exact ⟨rfl, rfl⟩

      · unfold widD widE; rw [ek, if_neg (by omega), if_neg (by omega)]; exact ⟨rfl, rfl⟩

    · rw [tdiv2 (by omega), tmod2 (by omega)]

      have st : (2 * x0 - ((k : Int) + 1)).toNat < (2 * x0 - (k : Int)).toNat := by omega

      have no : wdt f0 f1 f2 f3 k ≤ (wst f0 f1 f2 f3 k).2 → wst f0 f1 f2 f3 (k + 1) = wst f0 f1 f2 f3 k := fun g => by rw [wst, if_neg (by omega)]

      have yes : ¬ wdt f0 f1 f2 f3 k ≤ (wst f0 f1 f2 f3 k).2 → wst f0 f1 f2 f3 (k + 1) = ((k : Int), wdt f0 f1 f2 f3 k) := fun g => by rw [wst, if_pos (by omega)]

      have stay : wdt f0 f1 f2 f3 k ≤ (wst f0 f1 f2 f3 k).2 → ∃ j : Nat, (k : Int) + 1 = j ∧ (j : Int) ≤ 2 * x0 ∧ (wst f0 f1 f2 f3 k).1 = (wst f0 f1 f2 f3 j).1 ∧ (wst f0 f1 f2 f3 k).2 = (wst f0 f1 f2 f3 j).2 := fun g => ⟨k + 1, by omega, by omega, by rw [no g], by rw [no g]⟩

      have move : ¬ wdt f0 f1 f2 f3 k ≤ (wst f0 f1 f2 f3 k).2 → ∃ j : Nat, (k : Int) + 1 = j ∧ (j : Int) ≤ 2 * x0 ∧ (k : Int) = (wst f0 f1 f2 f3 j).1 ∧ wdt f0 f1 f2 f3 k = (wst f0 f1 f2 f3 j).2 := fun g => ⟨k + 1, by omega, by omega, by rw [yes g], by rw [yes g]⟩

      have even : (k : Int) % 2 = 0 → IntKind.i64.wrap (f1 ((k : Int) / 2) - f0 ((k : Int) / 2)) = wdt f0 f1 f2 f3 k := fun g => by unfold wdt; rw [if_pos g]

      have odd : ¬ (k : Int) % 2 = 0 → IntKind.i64.wrap (f3 ((k : Int) / 2) - f2 ((k : Int) / 2)) = wdt f0 f1 f2 f3 k := fun g => by unfold wdt; rw [if_neg g]

      refine ⟨fun ev => ⟨fun g => by omega, fun _ => ?_⟩, fun od => ⟨fun g => by omega, fun _ => ?_⟩⟩

      · rw [even ev]; exact ⟨fun g => ⟨stay g, st⟩, fun g => ⟨move g, st⟩⟩

      · rw [odd od]; exact ⟨fun g => ⟨stay g, st⟩, fun g => ⟨move g, st⟩⟩)

  exact hs

/-- Both halves: the error, and the rows. -/

def cutC (n d : Int) (f0 f1 f2 f3 : Int → Int) : Int := if ¬ (0 ≤ d ∧ d ≤ 2 * n - 1) then 6 else if d % 2 = 0 then (if f0 (d / 2) = f1 (d / 2) then 24 else 0) else (if f2 (d / 2) = f3 (d / 2) then 24 else 0)

def upd (f : Int → Int) (k v : Int) : Int → Int := fun q => if q = k then v else f q

theorem upd_rng {f : Int → Int} {k v : Int} (h : I64r f) (hv : (-9223372036854775808) ≤ v ∧ v ≤ 9223372036854775807) : I64r (upd f k v) := fun q => by unfold upd; split; exact hv; exact h q

theorem zero_rng : I64r (fun _ => 0) := fun _ => (by decide : (-9223372036854775808 : Int) ≤ 0 ∧ (0 : Int) ≤ 9223372036854775807)

theorem upd_same {f : Int → Int} {k : Int} : upd f k (f k) = f := by funext q; unfold upd; split; (rename_i h; rw [h]); rfl

structure CutR (n d : Int) (f0 f1 f2 f3 f4 : Int → Int) (a b c : Int) (g0 g1 g2 g3 g4 g5 g6 g7 g8 g9 : Int → Int) : Prop where

  c : c = cutC n d f0 f1 f2 f3

  no : cutC n d f0 f1 f2 f3 ≠ 0 → a = 0 ∧ b = 0 ∧ g0 = (fun _ => 0) ∧ g1 = (fun _ => 0) ∧ g2 = (fun _ => 0) ∧ g3 = (fun _ => 0) ∧ g4 = (fun _ => 0) ∧ g5 = (fun _ => 0) ∧ g6 = (fun _ => 0) ∧ g7 = (fun _ => 0) ∧ g8 = (fun _ => 0) ∧ g9 = (fun _ => 0)

  ev : cutC n d f0 f1 f2 f3 = 0 → d % 2 = 0 → a = n ∧ b = n ∧ g0 = f0 ∧ g1 = upd f1 (d / 2) ((f0 (d / 2) + f1 (d / 2)) / 2) ∧ g2 = f2 ∧ g3 = f3 ∧ g4 = f4 ∧ g5 = upd f0 (d / 2) ((f0 (d / 2) + f1 (d / 2)) / 2 + 1) ∧ g6 = f1 ∧ g7 = f2 ∧ g8 = f3 ∧ g9 = f4

  od : cutC n d f0 f1 f2 f3 = 0 → ¬ d % 2 = 0 → a = n ∧ b = n ∧ g0 = f0 ∧ g1 = f1 ∧ g2 = f2 ∧ g3 = upd f3 (d / 2) ((f2 (d / 2) + f3 (d / 2)) / 2) ∧ g4 = f4 ∧ g5 = f0 ∧ g6 = f1 ∧ g7 = upd f2 (d / 2) ((f2 (d / 2) + f3 (d / 2)) / 2 + 1) ∧ g8 = f3 ∧ g9 = f4

theorem CutR.err {n d : Int} {f0 f1 f2 f3 f4 : Int → Int} {e : Int} (h : cutC n d f0 f1 f2 f3 = e) (he : e ≠ 0) : CutR n d f0 f1 f2 f3 f4 0 0 e (fun _ => 0) (fun _ => 0) (fun _ => 0) (fun _ => 0) (fun _ => 0) (fun _ => 0) (fun _ => 0) (fun _ => 0) (fun _ => 0) (fun _ => 0) :=

  ⟨h.symm, fun _ => ⟨rfl, rfl, rfl, rfl, rfl, rfl, rfl, rfl, rfl, rfl, rfl, rfl⟩, fun g => absurd (h ▸ g) he, fun g => absurd (h ▸ g) he⟩

theorem bx_rng {n : Int} {f0 f1 f2 f3 f4 : Int → Int} (h0 : 0 ≤ n) (hb : bxsE n f0 f1 f2 f3 f4 = 0) : (1 ≤ n ∧ n ≤ 6) ∧ ∀ i, 0 ≤ i → i < n → (0 ≤ f0 i ∧ f0 i ≤ 1000000) ∧ (0 ≤ f1 i ∧ f1 i ≤ 1000000) ∧ (0 ≤ f2 i ∧ f2 i ≤ 1000000) ∧ (0 ≤ f3 i ∧ f3 i ≤ 1000000) := by

  unfold bxsE at hb

  split at hb

  · omega

  · split at hb

    · rename_i h1 h2

      have hn : 1 ≤ n := by omega

      refine ⟨⟨hn, h2⟩, fun i k0 k1 => ?_⟩

      have := bfst_all _ _ hb i k0 (by omega)

      unfold E5 boxE at this

      split at this

      · omega

      · rename_i g; simp only [Decidable.not_not] at g; omega

    · omega

theorem cut_p {x0 x1 : Int} {f0 f1 f2 f3 f4 : Int → Int} (r0 : 0 ≤ x0 ∧ x0 ≤ 8) (r1 : (-9223372036854775808) ≤ x1 ∧ x1 ≤ 9223372036854775807) (s0 : I64r f0) (s1 : I64r f1) (s2 : I64r f2) (s3 : I64r f3) (s4 : I64r f4) (hb : bxsE x0 f0 f1 f2 f3 f4 = 0) :

    ∃ (a b c : Int) (g0 g1 g2 g3 g4 g5 g6 g7 g8 g9 : Int → Int), CutR x0 x1 f0 f1 f2 f3 f4 a b c g0 g1 g2 g3 g4 g5 g6 g7 g8 g9 ∧ Spec Tryz.prog fit_CutOf_s ⟨[x0, x1], [], [f0, f1, f2, f3, f4]⟩ [a, b, c] [] [g0, g1, g2, g3, g4, g5, g6, g7, g8, g9] := by

  have hc := boxes_p (x0 := x0) (by omega) s0 s1 s2 s3 s4

  obtain ⟨⟨hn, hn6⟩, rg⟩ := bx_rng r0.1 hb

  rw [hb] at hc

  refine cu ⟨hn, r0.2⟩ r1 s0 s1 s2 s3 s4 (R := CutR x0 x1 f0 f1 f2 f3 f4) ⟨0, hc, ?_⟩

  simp only [decide_eq_true_eq, decide_eq_false_iff_not, beq_iff_eq, beq_eq_false_iff_ne, ne_eq]

  refine ⟨fun _ => ⟨fun h1 => ⟨fun h2 => ⟨fun h3 => ?_, fun h3 => ?_⟩, fun h2 => CutR.err (by unfold cutC; rw [if_pos (by omega)]) (by decide)⟩, fun h1 => CutR.err (by unfold cutC; rw [if_pos (by omega)]) (by decide)⟩, fun h => absurd trivial h⟩

  · rw [tdiv2 h1] at h3; omega

  · rw [tdiv2 h1] at *

    rw [tmod2 h1]

    obtain ⟨q0, q1, q2, q3⟩ := rg (x1 / 2) (by omega) (by omega)

    have w0 : IntKind.i64.wrap (f0 (x1 / 2) + f1 (x1 / 2)) = f0 (x1 / 2) + f1 (x1 / 2) := by rw [IntKind.wrap_i64]; omega

    have w1 : IntKind.i64.wrap (f2 (x1 / 2) + f3 (x1 / 2)) = f2 (x1 / 2) + f3 (x1 / 2) := by rw [IntKind.wrap_i64]; omega

    rw [w0, w1, tdiv2 (by omega), tdiv2 (by omega)]

    have base : cutC x0 x1 f0 f1 f2 f3 = if x1 % 2 = 0 then (if f0 (x1 / 2) = f1 (x1 / 2) then 24 else 0) else (if f2 (x1 / 2) = f3 (x1 / 2) then 24 else 0) := by unfold cutC; rw [if_neg (by omega)]

    refine ⟨fun ev => ⟨fun e => CutR.err (by rw [base, if_pos ev, if_pos e]) (by decide), fun e => ?_⟩, fun od => ⟨fun e => CutR.err (by rw [base, if_neg od, if_pos e]) (by decide), fun e => ?_⟩⟩

    · have c0 : cutC x0 x1 f0 f1 f2 f3 = 0 := by rw [base, if_pos ev, if_neg e]

      exact ⟨c0.symm, fun h => absurd c0 h, fun _ _ => ⟨rfl, rfl, rfl, rfl, rfl, rfl, rfl, rfl, rfl, rfl, rfl, rfl⟩, fun _ h => absurd ev h⟩

    · have c0 : cutC x0 x1 f0 f1 f2 f3 = 0 := by rw [base, if_neg od, if_neg e]

      exact ⟨c0.symm, fun h => absurd c0 h, fun _ h => absurd h od, fun _ _ => ⟨rfl, rfl, rfl, rfl, rfl, rfl, rfl, rfl, rfl, rfl, rfl, rfl⟩⟩

theorem cut_no {x0 x1 : Int} {f0 f1 f2 f3 f4 : Int → Int} (r0 : 0 ≤ x0 ∧ x0 ≤ 8) (r1 : (-9223372036854775808) ≤ x1 ∧ x1 ≤ 9223372036854775807) (s0 : I64r f0) (s1 : I64r f1) (s2 : I64r f2) (s3 : I64r f3) (s4 : I64r f4) (hb : bxsE x0 f0 f1 f2 f3 f4 ≠ 0) :

    Spec Tryz.prog fit_CutOf_s ⟨[x0, x1], [], [f0, f1, f2, f3, f4]⟩ [0, 0, bxsE x0 f0 f1 f2 f3 f4] [] [(fun _ => 0), (fun _ => 0), (fun _ => 0), (fun _ => 0), (fun _ => 0), (fun _ => 0), (fun _ => 0), (fun _ => 0), (fun _ => 0), (fun _ => 0)] := by

  have hc := boxes_p (x0 := x0) (by omega) s0 s1 s2 s3 s4

  obtain ⟨a, b, c, g0, g1, g2, g3, g4, g5, g6, g7, g8, g9, ⟨rfl, rfl, rfl, rfl, rfl, rfl, rfl, rfl, rfl, rfl, rfl, rfl, rfl⟩, hs⟩ := cun r0 r1 s0 s1 s2 s3 s4

    (R := fun a b c g0 g1 g2 g3 g4 g5 g6 g7 g8 g9 => a = 0 ∧ b = 0 ∧ c = bxsE x0 f0 f1 f2 f3 f4 ∧ g0 = (fun _ => 0) ∧ g1 = (fun _ => 0) ∧ g2 = (fun _ => 0) ∧ g3 = (fun _ => 0) ∧ g4 = (fun _ => 0) ∧ g5 = (fun _ => 0) ∧ g6 = (fun _ => 0) ∧ g7 = (fun _ => 0) ∧ g8 = (fun _ => 0) ∧ g9 = (fun _ => 0))

    ⟨_, hc, fun h => absurd (by simpa using h) hb, fun _ => ⟨rfl, rfl, rfl, rfl, rfl, rfl, rfl, rfl, rfl, rfl, rfl, rfl, rfl⟩⟩

  exact hs

theorem cut_r {x0 x1 : Int} {f0 f1 f2 f3 f4 : Int → Int} (r0 : 0 ≤ x0 ∧ x0 ≤ 8) (r1 : (-9223372036854775808) ≤ x1 ∧ x1 ≤ 9223372036854775807) (s0 : I64r f0) (s1 : I64r f1) (s2 : I64r f2) (s3 : I64r f3) (s4 : I64r f4) (hb : bxsE x0 f0 f1 f2 f3 f4 = 0) :

    ∃ (a b c : Int) (g0 g1 g2 g3 g4 g5 g6 g7 g8 g9 : Int → Int), CutR x0 x1 f0 f1 f2 f3 f4 a b c g0 g1 g2 g3 g4 g5 g6 g7 g8 g9 ∧ Spec Tryz.prog etalonref07_CutOf_s ⟨[x0, x1], [], [f0, f1, f2, f3, f4]⟩ [a, b, c] [] [g0, g1, g2, g3, g4, g5, g6, g7, g8, g9] := by

  obtain ⟨⟨hn, hn6⟩, rg⟩ := bx_rng r0.1 hb

  refine rcu ⟨hn, r0.2⟩ r1 s0 s1 s2 s3 s4 (R := CutR x0 x1 f0 f1 f2 f3 f4) ?_

  simp only [decide_eq_true_eq, decide_eq_false_iff_not, beq_iff_eq, beq_eq_false_iff_ne, ne_eq]

  refine ⟨fun h1 => ⟨fun h2 => ?_, fun h2 => CutR.err (by unfold cutC; rw [if_pos (by omega)]) (by decide)⟩, fun h1 => CutR.err (by unfold cutC; rw [if_pos (by omega)]) (by decide)⟩

  rw [tdiv2 h1] at *

  rw [tmod2 h1]

  obtain ⟨q0, q1, q2, q3⟩ := rg (x1 / 2) (by omega) (by omega)

  have w0 : IntKind.i64.wrap (f0 (x1 / 2) + f1 (x1 / 2)) = f0 (x1 / 2) + f1 (x1 / 2) := by rw [IntKind.wrap_i64]; omega

  have w1 : IntKind.i64.wrap (f2 (x1 / 2) + f3 (x1 / 2)) = f2 (x1 / 2) + f3 (x1 / 2) := by rw [IntKind.wrap_i64]; omega

  have w2 : IntKind.i64.wrap ((f0 (x1 / 2) + f1 (x1 / 2)) / 2 + 1) = (f0 (x1 / 2) + f1 (x1 / 2)) / 2 + 1 := by rw [IntKind.wrap_i64]; omega

  have w3 : IntKind.i64.wrap ((f2 (x1 / 2) + f3 (x1 / 2)) / 2 + 1) = (f2 (x1 / 2) + f3 (x1 / 2)) / 2 + 1 := by rw [IntKind.wrap_i64]; omega

  rw [w0, w1]

  have base : cutC x0 x1 f0 f1 f2 f3 = if x1 % 2 = 0 then (if f0 (x1 / 2) = f1 (x1 / 2) then 24 else 0) else (if f2 (x1 / 2) = f3 (x1 / 2) then 24 else 0) := by unfold cutC; rw [if_neg (by omega)]

  refine ⟨fun ev => ⟨fun h3 => by omega, fun h3 => ⟨fun e => CutR.err (by rw [base, if_pos ev, if_pos e]) (by decide), fun e => ⟨_, floor_s (by omega) (by decide), ?_⟩⟩⟩, fun od => ⟨fun h3 => by omega, fun h3 => ⟨fun e => CutR.err (by rw [base, if_neg od, if_pos e]) (by decide), fun e => ⟨_, floor_s (by omega) (by decide), ?_⟩⟩⟩⟩

  · have c0 : cutC x0 x1 f0 f1 f2 f3 = 0 := by rw [base, if_pos ev, if_neg e]

    rw [w2]

    exact ⟨c0.symm, fun h => absurd c0 h, fun _ _ => ⟨rfl, rfl, upd_same, rfl, rfl, rfl, rfl, rfl, upd_same, rfl, rfl, rfl⟩, fun _ h => absurd ev h⟩

  · have c0 : cutC x0 x1 f0 f1 f2 f3 = 0 := by rw [base, if_neg od, if_neg e]

    rw [w3]

    exact ⟨c0.symm, fun h => absurd c0 h, fun _ h => absurd h od, fun _ _ => ⟨rfl, rfl, rfl, rfl, upd_same, rfl, rfl, rfl, rfl, rfl, upd_same, rfl⟩⟩

end Go.Proofs.YtmlkejbofnafeaaGreat.Ev
