/- Boxes: their checks, of the program and of the reference; whether they are the same. -/
import Derived.Test.YtmlkejbofnafeaaGreatFvw1
namespace Go.Proofs.YtmlkejbofnafeaaGreat.Ev
set_option linter.unusedSimpArgs false
open Go Go.RowKit
set_option linter.unusedVariables false
set_option maxRecDepth 100000
def fit_checkBoxes_s : Sig := ⟨17, ⟨1, 0, 5⟩, ⟨1, 0, 0⟩, [(.asl 0 (.var 0))], [(some ⟨[], 61, true, false, (some ⟨(.var 0), [(.int .i64), (.int .i64), (.int .i64), (.int .i64), (.int .i64)], [(.avar 0), (.avar 1), (.avar 2), (.avar 3), (.avar 4)]⟩)⟩)], (.int .i64 (.var 1)), []⟩
def etalonref07_CheckBoxes_s : Sig := ⟨21, ⟨1, 0, 5⟩, ⟨2, 0, 0⟩, [(.asl 0 (.var 0))], [(some ⟨[], 61, true, false, (some ⟨(.var 0), [(.int .i64), (.int .i64), (.int .i64), (.int .i64), (.int .i64)], [(.avar 0), (.avar 1), (.avar 2), (.avar 3), (.avar 4)]⟩)⟩)], (.tuple [(.int .i64 (.var 1)), (.int .i64 (.var 2))]), []⟩
def etalonref07_BoxesErr_s : Sig := ⟨8, ⟨1, 0, 5⟩, ⟨1, 0, 0⟩, [(.asl 0 (.var 0))], [(some ⟨[], 61, true, false, (some ⟨(.var 0), [(.int .i64), (.int .i64), (.int .i64), (.int .i64), (.int .i64)], [(.avar 0), (.avar 1), (.avar 2), (.avar 3), (.avar 4)]⟩)⟩)], (.int .i64 (.var 1)), []⟩
def etalonbase_Boxes_s : Sig := ⟨11, ⟨2, 0, 10⟩, ⟨0, 1, 0⟩, [(.asl 0 (.var 0)), (.asl 1 (.var 1))], [(some ⟨[], 61, true, false, (some ⟨(.var 0), [(.int .i64), (.int .i64), (.int .i64), (.int .i64), (.int .i64)], [(.avar 0), (.avar 1), (.avar 2), (.avar 3), (.avar 4)]⟩)⟩), (some ⟨[], 61, true, false, (some ⟨(.var 1), [(.int .i64), (.int .i64), (.int .i64), (.int .i64), (.int .i64)], [(.avar 5), (.avar 6), (.avar 7), (.avar 8), (.avar 9)]⟩)⟩)], (.bool (.var 0)), []⟩

def cb_t : Tr :=
  (.ite (.icmp .eql (.var 0) (.lit 0))
  (.ret ⟨[(.lit 12)], [], []⟩ [])
  (.ite (.icmp .leq (.var 0) (.lit 6))
   (.loop ⟨39, [0, 1, 0, 1, 1, 1], [(.agg [(.int .i64 (.lit 10000)), (.int .i64 (.lit 0)), (.int .i64 (.lit 0)), (.int .i64 (.lit 0)), (.int .i64 (.lit 1000)), (.int .i64 (.lit 1000)), (.asl 0 (.var 0)), (.int .i64 (.lit 10000)), (.int .i64 (.lit 0))]), (.ptr (some ⟨2, 0, none⟩)), (.int .i64 (.lit 0)), (.int .i64 (.lit 0)), (.int .i64 (.lit 0)), (.tuple []), (.tuple []), (.tuple []), (.agg [(.int .i64 (.lit 10000)), (.int .i64 (.lit 0)), (.int .i64 (.lit 0)), (.int .i64 (.lit 0)), (.int .i64 (.lit 1000)), (.int .i64 (.lit 1000)), (.asl 0 (.var 0)), (.int .i64 (.lit 10000)), (.int .i64 (.lit 0))]), (.int .i64 (.lit 0)), (.int .i64 (.lit 0)), (.bool (.lit false)), (.tuple []), (.ptr (some ⟨2, 6, none⟩)), (.asl 0 (.var 0)), (.int .i64 (.var 0)), (.bool (.icmp .gtr (.var 0) (.lit 40))), (.ptr (some ⟨2, 6, none⟩)), (.asl 0 (.var 0)), (.int .i64 (.var 0)), (.int .i64 (.lit 0)), (.tuple []), (.tuple []), (.tuple []), (.tuple []), (.tuple []), (.tuple []), (.tuple []), (.tuple []), (.tuple []), (.tuple []), (.tuple []), (.tuple []), (.tuple []), (.tuple []), (.tuple []), (.tuple []), (.tuple []), (.tuple []), (.tuple []), (.tuple [])], [(some ⟨[], 61, true, false, (some ⟨(.var 0), [(.int .i64), (.int .i64), (.int .i64), (.int .i64), (.int .i64)], [(.avar 0), (.avar 1), (.avar 2), (.avar 3), (.avar 4)]⟩)⟩), (some ⟨[(.int .i64 (.lit 10000)), (.int .i64 (.lit 0)), (.int .i64 (.lit 0)), (.int .i64 (.lit 0)), (.int .i64 (.lit 1000)), (.int .i64 (.lit 1000)), (.asl 0 (.var 0)), (.int .i64 (.lit 10000)), (.int .i64 (.lit 0))], 87, false, false, none⟩), (some ⟨[(.int .i64 (.lit 10000)), (.int .i64 (.lit 0)), (.int .i64 (.lit 0)), (.int .i64 (.lit 0)), (.int .i64 (.lit 1000)), (.int .i64 (.lit 1000)), (.asl 0 (.var 0)), (.int .i64 (.lit 10000)), (.int .i64 (.lit 0))], 87, false, false, none⟩)], [], [(.agg [(.int .i64 (.lit 10000)), (.int .i64 (.lit 0)), (.int .i64 (.lit 0)), (.int .i64 (.lit 0)), (.int .i64 (.lit 1000)), (.int .i64 (.lit 1000)), (.asl 0 (.var 0)), (.int .i64 (.lit 10000)), (.int .i64 (.lit 0))]), (.ptr (some ⟨2, 0, none⟩)), (.int .i64 (.lit 0)), (.int .i64 (.lit 0)), (.int .i64 (.lit 0)), (.any 5), (.any 6), (.any 7), (.agg [(.int .i64 (.lit 10000)), (.int .i64 (.lit 0)), (.int .i64 (.lit 0)), (.int .i64 (.lit 0)), (.int .i64 (.lit 1000)), (.int .i64 (.lit 1000)), (.asl 0 (.var 0)), (.int .i64 (.lit 10000)), (.int .i64 (.lit 0))]), (.int .i64 (.lit 0)), (.int .i64 (.lit 0)), (.bool (.lit false)), (.tuple []), (.ptr (some ⟨2, 6, none⟩)), (.asl 0 (.var 0)), (.int .i64 (.var 0)), (.bool (.icmp .gtr (.var 0) (.lit 40))), (.ptr (some ⟨2, 6, none⟩)), (.asl 0 (.var 0)), (.int .i64 (.var 0)), (.int .i64 (.var 1)), (.any 21), (.any 22), (.any 23), (.any 24), (.any 25), (.any 26), (.any 27), (.any 28), (.tuple []), (.tuple []), (.tuple []), (.any 32), (.tuple []), (.tuple []), (.tuple []), (.tuple []), (.tuple []), (.tuple []), (.tuple []), (.tuple [])], [(some ⟨[], 61, true, false, (some ⟨(.var 0), [(.int .i64), (.int .i64), (.int .i64), (.int .i64), (.int .i64)], [(.avar 0), (.avar 1), (.avar 2), (.avar 3), (.avar 4)]⟩)⟩), (some ⟨[(.int .i64 (.lit 10000)), (.int .i64 (.lit 0)), (.int .i64 (.lit 0)), (.int .i64 (.lit 0)), (.int .i64 (.lit 1000)), (.int .i64 (.lit 1000)), (.asl 0 (.var 0)), (.int .i64 (.lit 10000)), (.int .i64 (.lit 0))], 87, false, false, none⟩), (some ⟨[(.int .i64 (.lit 10000)), (.int .i64 (.lit 0)), (.int .i64 (.lit 0)), (.int .i64 (.lit 0)), (.int .i64 (.lit 1000)), (.int .i64 (.lit 1000)), (.asl 0 (.var 0)), (.int .i64 (.lit 10000)), (.int .i64 (.lit 0))], 87, false, false, none⟩)], [], ⟨1, 0, 0⟩, ⟨[(.lit 0)], [], []⟩, []⟩
    (.rng 1 (-1) 6 (.ite (.icmp .leq (.var 0) (.var 1))
     (.out 1 ⟨[], [], []⟩ [])
     (.ite (.icmp .leq (.lit 0) (.var 1))
      (.ite (.icmp .leq (.lit 5000) (.sel (.avar 0) (.var 1)))
       (.ite (.icmp .leq (.sel (.avar 0) (.var 1)) (.lit 80000))
        (.ite (.icmp .leq (.lit 5000) (.sel (.avar 1) (.var 1)))
         (.ite (.icmp .leq (.sel (.avar 1) (.var 1)) (.lit 80000))
          (.ite (.icmp .leq (.lit 0) (.sel (.avar 2) (.var 1)))
           (.ite (.icmp .leq (.sel (.avar 2) (.var 1)) (.lit 1000000))
            (.ite (.icmp .leq (.lit 0) (.sel (.avar 3) (.var 1)))
             (.ite (.icmp .leq (.sel (.avar 3) (.var 1)) (.lit 1000000))
              (.ite (.icmp .leq (.lit 0) (.sel (.avar 4) (.var 1)))
               (.ite (.icmp .leq (.sel (.avar 4) (.var 1)) (.lit 80000))
                (.ite (.icmp .leq (.sel (.avar 0) (.var 1)) (.sel (.avar 1) (.var 1)))
                 (.ite (.icmp .leq (.sel (.avar 2) (.var 1)) (.sel (.avar 3) (.var 1)))
                  (.next ⟨[(.bin .addI (.var 1) (.lit 1))], [], []⟩ [])
                  (.out 0 ⟨[(.bin .addI (.var 1) (.lit 1)), (.lit 10)], [], []⟩ []))
                 (.out 0 ⟨[(.bin .addI (.var 1) (.lit 1)), (.lit 10)], [], []⟩ []))
                (.out 0 ⟨[(.bin .addI (.var 1) (.lit 1)), (.lit 2)], [], []⟩ []))
               (.out 0 ⟨[(.bin .addI (.var 1) (.lit 1)), (.lit 2)], [], []⟩ []))
              (.out 0 ⟨[(.bin .addI (.var 1) (.lit 1)), (.lit 2)], [], []⟩ []))
             (.out 0 ⟨[(.bin .addI (.var 1) (.lit 1)), (.lit 2)], [], []⟩ []))
            (.out 0 ⟨[(.bin .addI (.var 1) (.lit 1)), (.lit 2)], [], []⟩ []))
           (.out 0 ⟨[(.bin .addI (.var 1) (.lit 1)), (.lit 2)], [], []⟩ []))
          (.out 0 ⟨[(.bin .addI (.var 1) (.lit 1)), (.lit 2)], [], []⟩ []))
         (.out 0 ⟨[(.bin .addI (.var 1) (.lit 1)), (.lit 2)], [], []⟩ []))
        (.out 0 ⟨[(.bin .addI (.var 1) (.lit 1)), (.lit 2)], [], []⟩ []))
       (.out 0 ⟨[(.bin .addI (.var 1) (.lit 1)), (.lit 2)], [], []⟩ []))
      .nil)))
    (.ex (.ret, [(.agg [(.int .i64 (.lit 10000)), (.int .i64 (.lit 0)), (.int .i64 (.lit 0)), (.int .i64 (.lit 0)), (.int .i64 (.lit 1000)), (.int .i64 (.lit 1000)), (.asl 0 (.var 0)), (.int .i64 (.lit 10000)), (.int .i64 (.lit 0))]), (.ptr (some ⟨2, 0, none⟩)), (.int .i64 (.var 1)), (.int .i64 (.var 2)), (.int .i64 (.lit 0)), (.any 5), (.any 6), (.any 7), (.agg [(.int .i64 (.lit 10000)), (.int .i64 (.lit 0)), (.int .i64 (.lit 0)), (.int .i64 (.lit 0)), (.int .i64 (.lit 1000)), (.int .i64 (.lit 1000)), (.asl 0 (.var 0)), (.int .i64 (.lit 10000)), (.int .i64 (.lit 0))]), (.int .i64 (.lit 0)), (.int .i64 (.lit 0)), (.bool (.lit false)), (.tuple []), (.ptr (some ⟨2, 6, none⟩)), (.asl 0 (.var 0)), (.int .i64 (.var 0)), (.bool (.icmp .gtr (.var 0) (.lit 40))), (.ptr (some ⟨2, 6, none⟩)), (.asl 0 (.var 0)), (.int .i64 (.var 0)), (.any 20), (.any 21), (.any 22), (.any 23), (.any 24), (.any 25), (.any 26), (.any 27), (.any 28), (.any 29), (.any 30), (.any 31), (.any 32), (.tuple []), (.tuple []), (.tuple []), (.tuple []), (.tuple []), (.tuple []), (.tuple []), (.tuple [])], [(some ⟨[], 61, true, false, (some ⟨(.var 0), [(.int .i64), (.int .i64), (.int .i64), (.int .i64), (.int .i64)], [(.avar 0), (.avar 1), (.avar 2), (.avar 3), (.avar 4)]⟩)⟩), (some ⟨[(.int .i64 (.lit 10000)), (.int .i64 (.lit 0)), (.int .i64 (.lit 0)), (.int .i64 (.lit 0)), (.int .i64 (.lit 1000)), (.int .i64 (.lit 1000)), (.asl 0 (.var 0)), (.int .i64 (.lit 10000)), (.int .i64 (.lit 0))], 87, false, false, none⟩), (some ⟨[(.int .i64 (.lit 10000)), (.int .i64 (.lit 0)), (.int .i64 (.lit 0)), (.int .i64 (.lit 0)), (.int .i64 (.lit 1000)), (.int .i64 (.lit 1000)), (.asl 0 (.var 0)), (.int .i64 (.lit 10000)), (.int .i64 (.lit 0))], 87, false, false, none⟩)], []) ⟨2, 0, 0⟩
    (.rng 1 (-9223372036854775808) 9223372036854775807 (.rng 2 (-9223372036854775808) 9223372036854775807 (.ite (.icmp .eql (.var 2) (.lit 0))
     (.ret ⟨[(.lit 0)], [], []⟩ [])
     (.ret ⟨[(.var 2)], [], []⟩ []))))
    (.ex ((.exit 0), [(.agg [(.int .i64 (.lit 10000)), (.int .i64 (.lit 0)), (.int .i64 (.lit 0)), (.int .i64 (.lit 0)), (.int .i64 (.lit 1000)), (.int .i64 (.lit 1000)), (.asl 0 (.var 0)), (.int .i64 (.lit 10000)), (.int .i64 (.lit 0))]), (.ptr (some ⟨2, 0, none⟩)), (.int .i64 (.lit 0)), (.int .i64 (.lit 0)), (.int .i64 (.lit 0)), (.any 5), (.any 6), (.any 7), (.agg [(.int .i64 (.lit 10000)), (.int .i64 (.lit 0)), (.int .i64 (.lit 0)), (.int .i64 (.lit 0)), (.int .i64 (.lit 1000)), (.int .i64 (.lit 1000)), (.asl 0 (.var 0)), (.int .i64 (.lit 10000)), (.int .i64 (.lit 0))]), (.int .i64 (.lit 0)), (.int .i64 (.lit 0)), (.bool (.lit false)), (.tuple []), (.ptr (some ⟨2, 6, none⟩)), (.asl 0 (.var 0)), (.int .i64 (.var 0)), (.bool (.icmp .gtr (.var 0) (.lit 40))), (.ptr (some ⟨2, 6, none⟩)), (.asl 0 (.var 0)), (.int .i64 (.var 0)), (.any 20), (.any 21), (.any 22), (.any 23), (.any 24), (.any 25), (.any 26), (.any 27), (.any 28), (.tuple []), (.tuple []), (.tuple []), (.any 32), (.tuple []), (.tuple []), (.tuple []), (.tuple []), (.tuple []), (.tuple []), (.tuple []), (.tuple [])], [(some ⟨[], 61, true, false, (some ⟨(.var 0), [(.int .i64), (.int .i64), (.int .i64), (.int .i64), (.int .i64)], [(.avar 0), (.avar 1), (.avar 2), (.avar 3), (.avar 4)]⟩)⟩), (some ⟨[(.int .i64 (.lit 10000)), (.int .i64 (.lit 0)), (.int .i64 (.lit 0)), (.int .i64 (.lit 0)), (.int .i64 (.lit 1000)), (.int .i64 (.lit 1000)), (.asl 0 (.var 0)), (.int .i64 (.lit 10000)), (.int .i64 (.lit 0))], 87, false, false, none⟩), (some ⟨[(.int .i64 (.lit 10000)), (.int .i64 (.lit 0)), (.int .i64 (.lit 0)), (.int .i64 (.lit 0)), (.int .i64 (.lit 1000)), (.int .i64 (.lit 1000)), (.asl 0 (.var 0)), (.int .i64 (.lit 10000)), (.int .i64 (.lit 0))], 87, false, false, none⟩)], []) ⟨0, 0, 0⟩
    (.ret ⟨[(.lit 0)], [], []⟩ [])
    .nil)))
   (.ret ⟨[(.lit 8)], [], []⟩ [])))
theorem cb {x0 : Int} {f0 f1 f2 f3 f4 : Int → Int} (r0 : 0 ≤ x0 ∧ x0 ≤ 140737488355328) (s0 : ∀ q, (-9223372036854775808) ≤ f0 q ∧ f0 q ≤ 9223372036854775807) (s1 : ∀ q, (-9223372036854775808) ≤ f1 q ∧ f1 q ≤ 9223372036854775807) (s2 : ∀ q, (-9223372036854775808) ≤ f2 q ∧ f2 q ≤ 9223372036854775807) (s3 : ∀ q, (-9223372036854775808) ≤ f3 q ∧ f3 q ≤ 9223372036854775807) (s4 : ∀ q, (-9223372036854775808) ≤ f4 q ∧ f4 q ≤ 9223372036854775807) {R : Int → Prop}
  (H : ((((x0 : Int) == 0) = true → R (12)) ∧
   (((x0 : Int) == 0) = false → ((decide ((x0 : Int) ≤ 6) = true → (∃ (I1 : Int → Prop) (rk1 : Int → Nat), I1 (0) ∧
     (∀ x1 : Int, I1 x1 → (((-1) ≤ (x1 : Int) ∧ (x1 : Int) ≤ 6) ∧ ((decide ((x0 : Int) ≤ x1) = true → R (0)) ∧
      (decide ((x0 : Int) ≤ x1) = false → ((decide ((0 : Int) ≤ x1) = true → ((decide ((5000 : Int) ≤ (f0 x1)) = true → ((decide (((f0 x1) : Int) ≤ 80000) = true → ((decide ((5000 : Int) ≤ (f1 x1)) = true → ((decide (((f1 x1) : Int) ≤ 80000) = true → ((decide ((0 : Int) ≤ (f2 x1)) = true → ((decide (((f2 x1) : Int) ≤ 1000000) = true → ((decide ((0 : Int) ≤ (f3 x1)) = true → ((decide (((f3 x1) : Int) ≤ 1000000) = true → ((decide ((0 : Int) ≤ (f4 x1)) = true → ((decide (((f4 x1) : Int) ≤ 80000) = true → ((decide (((f0 x1) : Int) ≤ (f1 x1)) = true → ((decide (((f2 x1) : Int) ≤ (f3 x1)) = true → (I1 ((x1 + 1)) ∧ rk1 ((x1 + 1)) < rk1 x1)) ∧
                   (decide (((f2 x1) : Int) ≤ (f3 x1)) = false → (((-9223372036854775808) ≤ (((x1 + 1)) : Int) ∧ (((x1 + 1)) : Int) ≤ 9223372036854775807) ∧ (((-9223372036854775808) ≤ ((10) : Int) ∧ ((10) : Int) ≤ 9223372036854775807) ∧ (((((10) : Int) == 0) = true → R (0)) ∧
      ((((10) : Int) == 0) = false → R ((10))))))))) ∧
                  (decide (((f0 x1) : Int) ≤ (f1 x1)) = false → (((-9223372036854775808) ≤ (((x1 + 1)) : Int) ∧ (((x1 + 1)) : Int) ≤ 9223372036854775807) ∧ (((-9223372036854775808) ≤ ((10) : Int) ∧ ((10) : Int) ≤ 9223372036854775807) ∧ (((((10) : Int) == 0) = true → R (0)) ∧
      ((((10) : Int) == 0) = false → R ((10))))))))) ∧
                 (decide (((f4 x1) : Int) ≤ 80000) = false → (((-9223372036854775808) ≤ (((x1 + 1)) : Int) ∧ (((x1 + 1)) : Int) ≤ 9223372036854775807) ∧ (((-9223372036854775808) ≤ ((2) : Int) ∧ ((2) : Int) ≤ 9223372036854775807) ∧ (((((2) : Int) == 0) = true → R (0)) ∧
      ((((2) : Int) == 0) = false → R ((2))))))))) ∧
                (decide ((0 : Int) ≤ (f4 x1)) = false → (((-9223372036854775808) ≤ (((x1 + 1)) : Int) ∧ (((x1 + 1)) : Int) ≤ 9223372036854775807) ∧ (((-9223372036854775808) ≤ ((2) : Int) ∧ ((2) : Int) ≤ 9223372036854775807) ∧ (((((2) : Int) == 0) = true → R (0)) ∧
      ((((2) : Int) == 0) = false → R ((2))))))))) ∧
               (decide (((f3 x1) : Int) ≤ 1000000) = false → (((-9223372036854775808) ≤ (((x1 + 1)) : Int) ∧ (((x1 + 1)) : Int) ≤ 9223372036854775807) ∧ (((-9223372036854775808) ≤ ((2) : Int) ∧ ((2) : Int) ≤ 9223372036854775807) ∧ (((((2) : Int) == 0) = true → R (0)) ∧
      ((((2) : Int) == 0) = false → R ((2))))))))) ∧
              (decide ((0 : Int) ≤ (f3 x1)) = false → (((-9223372036854775808) ≤ (((x1 + 1)) : Int) ∧ (((x1 + 1)) : Int) ≤ 9223372036854775807) ∧ (((-9223372036854775808) ≤ ((2) : Int) ∧ ((2) : Int) ≤ 9223372036854775807) ∧ (((((2) : Int) == 0) = true → R (0)) ∧
      ((((2) : Int) == 0) = false → R ((2))))))))) ∧
             (decide (((f2 x1) : Int) ≤ 1000000) = false → (((-9223372036854775808) ≤ (((x1 + 1)) : Int) ∧ (((x1 + 1)) : Int) ≤ 9223372036854775807) ∧ (((-9223372036854775808) ≤ ((2) : Int) ∧ ((2) : Int) ≤ 9223372036854775807) ∧ (((((2) : Int) == 0) = true → R (0)) ∧
      ((((2) : Int) == 0) = false → R ((2))))))))) ∧
            (decide ((0 : Int) ≤ (f2 x1)) = false → (((-9223372036854775808) ≤ (((x1 + 1)) : Int) ∧ (((x1 + 1)) : Int) ≤ 9223372036854775807) ∧ (((-9223372036854775808) ≤ ((2) : Int) ∧ ((2) : Int) ≤ 9223372036854775807) ∧ (((((2) : Int) == 0) = true → R (0)) ∧
      ((((2) : Int) == 0) = false → R ((2))))))))) ∧
           (decide (((f1 x1) : Int) ≤ 80000) = false → (((-9223372036854775808) ≤ (((x1 + 1)) : Int) ∧ (((x1 + 1)) : Int) ≤ 9223372036854775807) ∧ (((-9223372036854775808) ≤ ((2) : Int) ∧ ((2) : Int) ≤ 9223372036854775807) ∧ (((((2) : Int) == 0) = true → R (0)) ∧
      ((((2) : Int) == 0) = false → R ((2))))))))) ∧
          (decide ((5000 : Int) ≤ (f1 x1)) = false → (((-9223372036854775808) ≤ (((x1 + 1)) : Int) ∧ (((x1 + 1)) : Int) ≤ 9223372036854775807) ∧ (((-9223372036854775808) ≤ ((2) : Int) ∧ ((2) : Int) ≤ 9223372036854775807) ∧ (((((2) : Int) == 0) = true → R (0)) ∧
      ((((2) : Int) == 0) = false → R ((2))))))))) ∧
         (decide (((f0 x1) : Int) ≤ 80000) = false → (((-9223372036854775808) ≤ (((x1 + 1)) : Int) ∧ (((x1 + 1)) : Int) ≤ 9223372036854775807) ∧ (((-9223372036854775808) ≤ ((2) : Int) ∧ ((2) : Int) ≤ 9223372036854775807) ∧ (((((2) : Int) == 0) = true → R (0)) ∧
      ((((2) : Int) == 0) = false → R ((2))))))))) ∧
        (decide ((5000 : Int) ≤ (f0 x1)) = false → (((-9223372036854775808) ≤ (((x1 + 1)) : Int) ∧ (((x1 + 1)) : Int) ≤ 9223372036854775807) ∧ (((-9223372036854775808) ≤ ((2) : Int) ∧ ((2) : Int) ≤ 9223372036854775807) ∧ (((((2) : Int) == 0) = true → R (0)) ∧
      ((((2) : Int) == 0) = false → R ((2))))))))) ∧
       (decide ((0 : Int) ≤ x1) = false → False)))))))) ∧
    (decide ((x0 : Int) ≤ 6) = false → R (8)))))) :
    ∃ v0 : Int, R v0 ∧ Spec Tryz.prog fit_checkBoxes_s ⟨[x0], [], [f0, f1, f2, f3, f4]⟩ [v0] [] [] :=
  Eq.mp (by kernel_rfl) (exV_of (K := fun d => app3 fit_checkBoxes_s.out R d ∧ Spec Tryz.prog fit_checkBoxes_s ⟨[x0], [], [f0, f1, f2, f3, f4]⟩ d.1 d.2.1 d.2.2) (tree_at mixed names S1_ok (S := S1 Tryz.prog) (lf := 100000) (d := 60) fit_checkBoxes_s cb_t { ivs := [(0, 0, 140737488355328)], aivs := [(0, (-9223372036854775808), 9223372036854775807), (1, (-9223372036854775808), 9223372036854775807), (2, (-9223372036854775808), 9223372036854775807), (3, (-9223372036854775808), 9223372036854775807), (4, (-9223372036854775808), 9223372036854775807)] } ⟨[x0], [], [f0, f1, f2, f3, f4]⟩ rfl (by kernel_rfl) (by kernel_rfl) (by kernel_rfl) ⟨(fc r0 fz), fz, (fc s0 (fc s1 (fc s2 (fc s3 (fc s4 fz))))), fz⟩ (R := fun d => app3 fit_checkBoxes_s.out R d) (Eq.mp (by kernel_rfl) H)))

def rcb_t : Tr :=
  (.ite (.icmp .eql (.var 0) (.lit 0))
  (.ret ⟨[(.lit 0), (.lit 12)], [], []⟩ [])
  (.ite (.icmp .leq (.var 0) (.lit 6))
   (.loop ⟨21, [0, 1, 0, 1, 1, 1], [(.asl 0 (.var 0)), (.tuple []), (.int .i64 (.lit 0)), (.int .i64 (.lit 0)), (.int .i64 (.lit 0)), (.tuple []), (.asl 0 (.var 0)), (.int .i64 (.var 0)), (.bool (.icmp .eql (.var 0) (.lit 0))), (.asl 0 (.var 0)), (.int .i64 (.var 0)), (.bool (.icmp .gtr (.var 0) (.lit 6))), (.tuple []), (.tuple []), (.tuple []), (.tuple []), (.tuple []), (.tuple []), (.tuple []), (.tuple []), (.tuple []), (.tuple []), (.tuple []), (.tuple []), (.tuple []), (.tuple []), (.tuple []), (.tuple []), (.tuple []), (.tuple []), (.tuple []), (.tuple []), (.tuple []), (.tuple []), (.tuple []), (.tuple []), (.tuple []), (.tuple []), (.tuple []), (.tuple []), (.tuple []), (.tuple []), (.tuple []), (.tuple []), (.tuple []), (.tuple []), (.tuple []), (.tuple []), (.tuple []), (.tuple []), (.tuple []), (.tuple []), (.tuple []), (.tuple []), (.tuple []), (.tuple []), (.tuple []), (.tuple []), (.tuple []), (.tuple []), (.tuple []), (.tuple []), (.tuple []), (.tuple []), (.tuple []), (.tuple []), (.tuple []), (.tuple []), (.tuple []), (.tuple []), (.tuple []), (.tuple [])], [(some ⟨[], 61, true, false, (some ⟨(.var 0), [(.int .i64), (.int .i64), (.int .i64), (.int .i64), (.int .i64)], [(.avar 0), (.avar 1), (.avar 2), (.avar 3), (.avar 4)]⟩)⟩)], [], [(.asl 0 (.var 0)), (.tuple []), (.int .i64 (.lit 0)), (.int .i64 (.lit 0)), (.int .i64 (.var 1)), (.any 5), (.asl 0 (.var 0)), (.int .i64 (.var 0)), (.bool (.icmp .eql (.var 0) (.lit 0))), (.asl 0 (.var 0)), (.int .i64 (.var 0)), (.bool (.icmp .gtr (.var 0) (.lit 6))), (.any 12), (.any 13), (.any 14), (.any 15), (.any 16), (.any 17), (.any 18), (.any 19), (.any 20), (.any 21), (.any 22), (.any 23), (.any 24), (.any 25), (.any 26), (.any 27), (.any 28), (.any 29), (.any 30), (.any 31), (.any 32), (.any 33), (.any 34), (.any 35), (.any 36), (.any 37), (.any 38), (.any 39), (.any 40), (.any 41), (.any 42), (.any 43), (.any 44), (.any 45), (.any 46), (.any 47), (.any 48), (.any 49), (.any 50), (.any 51), (.any 52), (.any 53), (.tuple []), (.any 55), (.any 56), (.any 57), (.any 58), (.any 59), (.any 60), (.any 61), (.any 62), (.any 63), (.any 64), (.any 65), (.any 66), (.any 67), (.any 68), (.any 69), (.any 70), (.tuple [])], [(some ⟨[], 61, true, false, (some ⟨(.var 0), [(.int .i64), (.int .i64), (.int .i64), (.int .i64), (.int .i64)], [(.avar 0), (.avar 1), (.avar 2), (.avar 3), (.avar 4)]⟩)⟩)], [], ⟨1, 0, 0⟩, ⟨[(.lit 0)], [], []⟩, []⟩
    (.rng 1 0 6 (.ite (.icmp .leq (.var 0) (.var 1))
     (.out 1 ⟨[], [], []⟩ [])
     (.ite (.icmp .leq (.lit 5000) (.sel (.avar 0) (.var 1)))
      (.ite (.icmp .leq (.sel (.avar 0) (.var 1)) (.lit 80000))
       (.ite (.icmp .leq (.lit 5000) (.sel (.avar 1) (.var 1)))
        (.ite (.icmp .leq (.sel (.avar 1) (.var 1)) (.lit 80000))
         (.ite (.icmp .leq (.lit 0) (.sel (.avar 2) (.var 1)))
          (.ite (.icmp .leq (.sel (.avar 2) (.var 1)) (.lit 1000000))
           (.ite (.icmp .leq (.lit 0) (.sel (.avar 3) (.var 1)))
            (.ite (.icmp .leq (.sel (.avar 3) (.var 1)) (.lit 1000000))
             (.ite (.icmp .leq (.lit 0) (.sel (.avar 4) (.var 1)))
              (.ite (.icmp .leq (.sel (.avar 4) (.var 1)) (.lit 80000))
               (.ite (.icmp .leq (.sel (.avar 0) (.var 1)) (.sel (.avar 1) (.var 1)))
                (.ite (.icmp .leq (.sel (.avar 2) (.var 1)) (.sel (.avar 3) (.var 1)))
                 (.next ⟨[(.bin .addI (.var 1) (.lit 1))], [], []⟩ [])
                 (.out 0 ⟨[(.var 1), (.lit 10)], [], []⟩ []))
                (.out 0 ⟨[(.var 1), (.lit 10)], [], []⟩ []))
               (.out 0 ⟨[(.var 1), (.lit 2)], [], []⟩ []))
              (.out 0 ⟨[(.var 1), (.lit 2)], [], []⟩ []))
             (.out 0 ⟨[(.var 1), (.lit 2)], [], []⟩ []))
            (.out 0 ⟨[(.var 1), (.lit 2)], [], []⟩ []))
           (.out 0 ⟨[(.var 1), (.lit 2)], [], []⟩ []))
          (.out 0 ⟨[(.var 1), (.lit 2)], [], []⟩ []))
         (.out 0 ⟨[(.var 1), (.lit 2)], [], []⟩ []))
        (.out 0 ⟨[(.var 1), (.lit 2)], [], []⟩ []))
       (.out 0 ⟨[(.var 1), (.lit 2)], [], []⟩ []))
      (.out 0 ⟨[(.var 1), (.lit 2)], [], []⟩ []))))
    (.ex (.ret, [(.asl 0 (.var 0)), (.tuple []), (.int .i64 (.var 1)), (.int .i64 (.var 2)), (.any 4), (.any 5), (.asl 0 (.var 0)), (.int .i64 (.var 0)), (.bool (.icmp .eql (.var 0) (.lit 0))), (.asl 0 (.var 0)), (.int .i64 (.var 0)), (.bool (.icmp .gtr (.var 0) (.lit 6))), (.any 12), (.any 13), (.any 14), (.any 15), (.any 16), (.any 17), (.any 18), (.any 19), (.any 20), (.any 21), (.any 22), (.any 23), (.any 24), (.any 25), (.any 26), (.any 27), (.any 28), (.any 29), (.any 30), (.any 31), (.any 32), (.any 33), (.any 34), (.any 35), (.any 36), (.any 37), (.any 38), (.any 39), (.any 40), (.any 41), (.any 42), (.any 43), (.any 44), (.any 45), (.any 46), (.any 47), (.any 48), (.any 49), (.any 50), (.any 51), (.any 52), (.any 53), (.any 54), (.any 55), (.any 56), (.any 57), (.any 58), (.any 59), (.any 60), (.any 61), (.any 62), (.any 63), (.any 64), (.any 65), (.any 66), (.any 67), (.any 68), (.any 69), (.any 70), (.any 71)], [(some ⟨[], 61, true, false, (some ⟨(.var 0), [(.int .i64), (.int .i64), (.int .i64), (.int .i64), (.int .i64)], [(.avar 0), (.avar 1), (.avar 2), (.avar 3), (.avar 4)]⟩)⟩)], []) ⟨2, 0, 0⟩
    (.rng 1 (-9223372036854775808) 9223372036854775807 (.rng 2 (-9223372036854775808) 9223372036854775807 (.ret ⟨[(.var 1), (.var 2)], [], []⟩ [])))
    (.ex ((.exit 0), [(.asl 0 (.var 0)), (.tuple []), (.int .i64 (.lit 0)), (.int .i64 (.lit 0)), (.any 4), (.any 5), (.asl 0 (.var 0)), (.int .i64 (.var 0)), (.bool (.icmp .eql (.var 0) (.lit 0))), (.asl 0 (.var 0)), (.int .i64 (.var 0)), (.bool (.icmp .gtr (.var 0) (.lit 6))), (.any 12), (.any 13), (.any 14), (.any 15), (.any 16), (.any 17), (.any 18), (.any 19), (.any 20), (.any 21), (.any 22), (.any 23), (.any 24), (.any 25), (.any 26), (.any 27), (.any 28), (.any 29), (.any 30), (.any 31), (.any 32), (.any 33), (.any 34), (.any 35), (.any 36), (.any 37), (.any 38), (.any 39), (.any 40), (.any 41), (.any 42), (.any 43), (.any 44), (.any 45), (.any 46), (.any 47), (.any 48), (.any 49), (.any 50), (.any 51), (.any 52), (.any 53), (.tuple []), (.any 55), (.any 56), (.any 57), (.any 58), (.any 59), (.any 60), (.any 61), (.any 62), (.any 63), (.any 64), (.any 65), (.any 66), (.any 67), (.any 68), (.any 69), (.any 70), (.tuple [])], [(some ⟨[], 61, true, false, (some ⟨(.var 0), [(.int .i64), (.int .i64), (.int .i64), (.int .i64), (.int .i64)], [(.avar 0), (.avar 1), (.avar 2), (.avar 3), (.avar 4)]⟩)⟩)], []) ⟨0, 0, 0⟩
    (.ret ⟨[(.lit 0), (.lit 0)], [], []⟩ [])
    .nil)))
   (.ret ⟨[(.lit 0), (.lit 8)], [], []⟩ [])))
theorem rcb {x0 : Int} {f0 f1 f2 f3 f4 : Int → Int} (r0 : 0 ≤ x0 ∧ x0 ≤ 140737488355328) (s0 : ∀ q, (-9223372036854775808) ≤ f0 q ∧ f0 q ≤ 9223372036854775807) (s1 : ∀ q, (-9223372036854775808) ≤ f1 q ∧ f1 q ≤ 9223372036854775807) (s2 : ∀ q, (-9223372036854775808) ≤ f2 q ∧ f2 q ≤ 9223372036854775807) (s3 : ∀ q, (-9223372036854775808) ≤ f3 q ∧ f3 q ≤ 9223372036854775807) (s4 : ∀ q, (-9223372036854775808) ≤ f4 q ∧ f4 q ≤ 9223372036854775807) {R : Int → Int → Prop}
  (H : ((((x0 : Int) == 0) = true → R (0) (12)) ∧
   (((x0 : Int) == 0) = false → ((decide ((x0 : Int) ≤ 6) = true → (∃ (I1 : Int → Prop) (rk1 : Int → Nat), I1 (0) ∧
     (∀ x1 : Int, I1 x1 → ((0 ≤ (x1 : Int) ∧ (x1 : Int) ≤ 6) ∧ ((decide ((x0 : Int) ≤ x1) = true → R (0) (0)) ∧
      (decide ((x0 : Int) ≤ x1) = false → ((decide ((5000 : Int) ≤ (f0 x1)) = true → ((decide (((f0 x1) : Int) ≤ 80000) = true → ((decide ((5000 : Int) ≤ (f1 x1)) = true → ((decide (((f1 x1) : Int) ≤ 80000) = true → ((decide ((0 : Int) ≤ (f2 x1)) = true → ((decide (((f2 x1) : Int) ≤ 1000000) = true → ((decide ((0 : Int) ≤ (f3 x1)) = true → ((decide (((f3 x1) : Int) ≤ 1000000) = true → ((decide ((0 : Int) ≤ (f4 x1)) = true → ((decide (((f4 x1) : Int) ≤ 80000) = true → ((decide (((f0 x1) : Int) ≤ (f1 x1)) = true → ((decide (((f2 x1) : Int) ≤ (f3 x1)) = true → (I1 ((x1 + 1)) ∧ rk1 ((x1 + 1)) < rk1 x1)) ∧
                  (decide (((f2 x1) : Int) ≤ (f3 x1)) = false → (((-9223372036854775808) ≤ ((x1) : Int) ∧ ((x1) : Int) ≤ 9223372036854775807) ∧ (((-9223372036854775808) ≤ ((10) : Int) ∧ ((10) : Int) ≤ 9223372036854775807) ∧ R ((x1)) ((10))))))) ∧
                 (decide (((f0 x1) : Int) ≤ (f1 x1)) = false → (((-9223372036854775808) ≤ ((x1) : Int) ∧ ((x1) : Int) ≤ 9223372036854775807) ∧ (((-9223372036854775808) ≤ ((10) : Int) ∧ ((10) : Int) ≤ 9223372036854775807) ∧ R ((x1)) ((10))))))) ∧
                (decide (((f4 x1) : Int) ≤ 80000) = false → (((-9223372036854775808) ≤ ((x1) : Int) ∧ ((x1) : Int) ≤ 9223372036854775807) ∧ (((-9223372036854775808) ≤ ((2) : Int) ∧ ((2) : Int) ≤ 9223372036854775807) ∧ R ((x1)) ((2))))))) ∧
               (decide ((0 : Int) ≤ (f4 x1)) = false → (((-9223372036854775808) ≤ ((x1) : Int) ∧ ((x1) : Int) ≤ 9223372036854775807) ∧ (((-9223372036854775808) ≤ ((2) : Int) ∧ ((2) : Int) ≤ 9223372036854775807) ∧ R ((x1)) ((2))))))) ∧
              (decide (((f3 x1) : Int) ≤ 1000000) = false → (((-9223372036854775808) ≤ ((x1) : Int) ∧ ((x1) : Int) ≤ 9223372036854775807) ∧ (((-9223372036854775808) ≤ ((2) : Int) ∧ ((2) : Int) ≤ 9223372036854775807) ∧ R ((x1)) ((2))))))) ∧
             (decide ((0 : Int) ≤ (f3 x1)) = false → (((-9223372036854775808) ≤ ((x1) : Int) ∧ ((x1) : Int) ≤ 9223372036854775807) ∧ (((-9223372036854775808) ≤ ((2) : Int) ∧ ((2) : Int) ≤ 9223372036854775807) ∧ R ((x1)) ((2))))))) ∧
            (decide (((f2 x1) : Int) ≤ 1000000) = false → (((-9223372036854775808) ≤ ((x1) : Int) ∧ ((x1) : Int) ≤ 9223372036854775807) ∧ (((-9223372036854775808) ≤ ((2) : Int) ∧ ((2) : Int) ≤ 9223372036854775807) ∧ R ((x1)) ((2))))))) ∧
           (decide ((0 : Int) ≤ (f2 x1)) = false → (((-9223372036854775808) ≤ ((x1) : Int) ∧ ((x1) : Int) ≤ 9223372036854775807) ∧ (((-9223372036854775808) ≤ ((2) : Int) ∧ ((2) : Int) ≤ 9223372036854775807) ∧ R ((x1)) ((2))))))) ∧
          (decide (((f1 x1) : Int) ≤ 80000) = false → (((-9223372036854775808) ≤ ((x1) : Int) ∧ ((x1) : Int) ≤ 9223372036854775807) ∧ (((-9223372036854775808) ≤ ((2) : Int) ∧ ((2) : Int) ≤ 9223372036854775807) ∧ R ((x1)) ((2))))))) ∧
         (decide ((5000 : Int) ≤ (f1 x1)) = false → (((-9223372036854775808) ≤ ((x1) : Int) ∧ ((x1) : Int) ≤ 9223372036854775807) ∧ (((-9223372036854775808) ≤ ((2) : Int) ∧ ((2) : Int) ≤ 9223372036854775807) ∧ R ((x1)) ((2))))))) ∧
        (decide (((f0 x1) : Int) ≤ 80000) = false → (((-9223372036854775808) ≤ ((x1) : Int) ∧ ((x1) : Int) ≤ 9223372036854775807) ∧ (((-9223372036854775808) ≤ ((2) : Int) ∧ ((2) : Int) ≤ 9223372036854775807) ∧ R ((x1)) ((2))))))) ∧
       (decide ((5000 : Int) ≤ (f0 x1)) = false → (((-9223372036854775808) ≤ ((x1) : Int) ∧ ((x1) : Int) ≤ 9223372036854775807) ∧ (((-9223372036854775808) ≤ ((2) : Int) ∧ ((2) : Int) ≤ 9223372036854775807) ∧ R ((x1)) ((2)))))))))))) ∧
    (decide ((x0 : Int) ≤ 6) = false → R (0) (8)))))) :
    ∃ v0 : Int, ∃ v1 : Int, R v0 v1 ∧ Spec Tryz.prog etalonref07_CheckBoxes_s ⟨[x0], [], [f0, f1, f2, f3, f4]⟩ [v0, v1] [] [] :=
  Eq.mp (by kernel_rfl) (exV_of (K := fun d => app3 etalonref07_CheckBoxes_s.out R d ∧ Spec Tryz.prog etalonref07_CheckBoxes_s ⟨[x0], [], [f0, f1, f2, f3, f4]⟩ d.1 d.2.1 d.2.2) (tree_at mixed names S1_ok (S := S1 Tryz.prog) (lf := 100000) (d := 60) etalonref07_CheckBoxes_s rcb_t { ivs := [(0, 0, 140737488355328)], aivs := [(0, (-9223372036854775808), 9223372036854775807), (1, (-9223372036854775808), 9223372036854775807), (2, (-9223372036854775808), 9223372036854775807), (3, (-9223372036854775808), 9223372036854775807), (4, (-9223372036854775808), 9223372036854775807)] } ⟨[x0], [], [f0, f1, f2, f3, f4]⟩ rfl (by kernel_rfl) (by kernel_rfl) (by kernel_rfl) ⟨(fc r0 fz), fz, (fc s0 (fc s1 (fc s2 (fc s3 (fc s4 fz))))), fz⟩ (R := fun d => app3 etalonref07_CheckBoxes_s.out R d) (Eq.mp (by kernel_rfl) H)))

def rbe_t : Tr :=
  (.call etalonref07_CheckBoxes_s ⟨[(.var 0)], [], [(.avar 0), (.avar 1), (.avar 2), (.avar 3), (.avar 4)]⟩ ⟨[(.var 0), (.var 1), (.var 2)], [], [(.avar 0), (.avar 1), (.avar 2), (.avar 3), (.avar 4)]⟩ ⟨21, [(.asl 0 (.var 0))], [0], [(some ⟨[], 61, true, false, (some ⟨(.var 0), [(.int .i64), (.int .i64), (.int .i64), (.int .i64), (.int .i64)], [(.avar 0), (.avar 1), (.avar 2), (.avar 3), (.avar 4)]⟩)⟩)], (.tuple [(.int .i64 (.var 1)), (.int .i64 (.var 2))]), []⟩
  (.ret ⟨[(.var 2)], [], []⟩ []))
theorem rbe {x0 : Int} {f0 f1 f2 f3 f4 : Int → Int} (r0 : 0 ≤ x0 ∧ x0 ≤ 140737488355328) (s0 : ∀ q, (-9223372036854775808) ≤ f0 q ∧ f0 q ≤ 9223372036854775807) (s1 : ∀ q, (-9223372036854775808) ≤ f1 q ∧ f1 q ≤ 9223372036854775807) (s2 : ∀ q, (-9223372036854775808) ≤ f2 q ∧ f2 q ≤ 9223372036854775807) (s3 : ∀ q, (-9223372036854775808) ≤ f3 q ∧ f3 q ≤ 9223372036854775807) (s4 : ∀ q, (-9223372036854775808) ≤ f4 q ∧ f4 q ≤ 9223372036854775807) {R : Int → Prop}
  (H : (∃ v1 : Int, ∃ v2 : Int, Spec Tryz.prog etalonref07_CheckBoxes_s ⟨[x0], [], [f0, f1, f2, f3, f4]⟩ [v1, v2] [] [] ∧
   R (v2))) :
    ∃ v0 : Int, R v0 ∧ Spec Tryz.prog etalonref07_BoxesErr_s ⟨[x0], [], [f0, f1, f2, f3, f4]⟩ [v0] [] [] :=
  Eq.mp (by kernel_rfl) (exV_of (K := fun d => app3 etalonref07_BoxesErr_s.out R d ∧ Spec Tryz.prog etalonref07_BoxesErr_s ⟨[x0], [], [f0, f1, f2, f3, f4]⟩ d.1 d.2.1 d.2.2) (tree_at mixed names S1_ok (S := S1 Tryz.prog) (lf := 100000) (d := 60) etalonref07_BoxesErr_s rbe_t { ivs := [(0, 0, 140737488355328)], aivs := [(0, (-9223372036854775808), 9223372036854775807), (1, (-9223372036854775808), 9223372036854775807), (2, (-9223372036854775808), 9223372036854775807), (3, (-9223372036854775808), 9223372036854775807), (4, (-9223372036854775808), 9223372036854775807)] } ⟨[x0], [], [f0, f1, f2, f3, f4]⟩ rfl (by kernel_rfl) (by kernel_rfl) (by kernel_rfl) ⟨(fc r0 fz), fz, (fc s0 (fc s1 (fc s2 (fc s3 (fc s4 fz))))), fz⟩ (R := fun d => app3 etalonref07_BoxesErr_s.out R d) (Eq.mp (by kernel_rfl) H)))

def bx_t : Tr :=
  (.ite (.icmp .eql (.var 0) (.var 1))
  (.loop ⟨11, [0, 1, 0, 1, 1], [(.asl 0 (.var 0)), (.asl 1 (.var 1)), (.tuple []), (.tuple []), (.bool (.lit false)), (.int .i64 (.lit 0)), (.asl 0 (.var 0)), (.int .i64 (.var 0)), (.asl 1 (.var 1)), (.int .i64 (.var 1)), (.bool (.icmp .neq (.var 0) (.var 1))), (.tuple []), (.tuple []), (.tuple []), (.tuple []), (.tuple []), (.tuple []), (.tuple []), (.tuple []), (.tuple []), (.tuple []), (.tuple []), (.tuple []), (.tuple []), (.tuple []), (.tuple [])], [(some ⟨[], 61, true, false, (some ⟨(.var 0), [(.int .i64), (.int .i64), (.int .i64), (.int .i64), (.int .i64)], [(.avar 0), (.avar 1), (.avar 2), (.avar 3), (.avar 4)]⟩)⟩), (some ⟨[], 61, true, false, (some ⟨(.var 1), [(.int .i64), (.int .i64), (.int .i64), (.int .i64), (.int .i64)], [(.avar 5), (.avar 6), (.avar 7), (.avar 8), (.avar 9)]⟩)⟩)], [], [(.asl 0 (.var 0)), (.asl 1 (.var 1)), (.tuple []), (.tuple []), (.bool (.lit false)), (.int .i64 (.var 2)), (.asl 0 (.var 0)), (.int .i64 (.var 0)), (.asl 1 (.var 1)), (.int .i64 (.var 1)), (.bool (.icmp .neq (.var 0) (.var 1))), (.any 11), (.any 12), (.any 13), (.any 14), (.any 15), (.any 16), (.any 17), (.any 18), (.any 19), (.any 20), (.any 21), (.any 22), (.any 23), (.any 24), (.any 25)], [(some ⟨[], 61, true, false, (some ⟨(.var 0), [(.int .i64), (.int .i64), (.int .i64), (.int .i64), (.int .i64)], [(.avar 0), (.avar 1), (.avar 2), (.avar 3), (.avar 4)]⟩)⟩), (some ⟨[], 61, true, false, (some ⟨(.var 1), [(.int .i64), (.int .i64), (.int .i64), (.int .i64), (.int .i64)], [(.avar 5), (.avar 6), (.avar 7), (.avar 8), (.avar 9)]⟩)⟩)], [], ⟨1, 0, 0⟩, ⟨[(.lit 0)], [], []⟩, []⟩
   (.rng 2 0 140737488355328 (.ite (.icmp .leq (.var 0) (.var 2))
    (.out 1 ⟨[], [], []⟩ [])
    (.ite (.icmp .leq (.var 1) (.var 2))
     .nil
     (.ite (.icmp .eql (.sel (.avar 0) (.var 2)) (.sel (.avar 5) (.var 2)))
      (.ite (.icmp .eql (.sel (.avar 1) (.var 2)) (.sel (.avar 6) (.var 2)))
       (.ite (.icmp .eql (.sel (.avar 2) (.var 2)) (.sel (.avar 7) (.var 2)))
        (.ite (.icmp .eql (.sel (.avar 3) (.var 2)) (.sel (.avar 8) (.var 2)))
         (.ite (.icmp .eql (.sel (.avar 4) (.var 2)) (.sel (.avar 9) (.var 2)))
          (.next ⟨[(.bin .addI (.var 2) (.lit 1))], [], []⟩ [])
          (.out 0 ⟨[], [], []⟩ []))
         (.out 0 ⟨[], [], []⟩ []))
        (.out 0 ⟨[], [], []⟩ []))
       (.out 0 ⟨[], [], []⟩ []))
      (.out 0 ⟨[], [], []⟩ [])))))
   (.ex (.ret, [(.asl 0 (.var 0)), (.asl 1 (.var 1)), (.tuple []), (.tuple []), (.bool (.lit false)), (.any 5), (.asl 0 (.var 0)), (.int .i64 (.var 0)), (.asl 1 (.var 1)), (.int .i64 (.var 1)), (.bool (.icmp .neq (.var 0) (.var 1))), (.any 11), (.any 12), (.any 13), (.any 14), (.any 15), (.any 16), (.any 17), (.any 18), (.any 19), (.any 20), (.any 21), (.any 22), (.any 23), (.any 24), (.any 25)], [(some ⟨[], 61, true, false, (some ⟨(.var 0), [(.int .i64), (.int .i64), (.int .i64), (.int .i64), (.int .i64)], [(.avar 0), (.avar 1), (.avar 2), (.avar 3), (.avar 4)]⟩)⟩), (some ⟨[], 61, true, false, (some ⟨(.var 1), [(.int .i64), (.int .i64), (.int .i64), (.int .i64), (.int .i64)], [(.avar 5), (.avar 6), (.avar 7), (.avar 8), (.avar 9)]⟩)⟩)], []) ⟨0, 0, 0⟩
   (.ret ⟨[], [(.lit false)], []⟩ [])
   (.ex ((.exit 0), [(.asl 0 (.var 0)), (.asl 1 (.var 1)), (.tuple []), (.tuple []), (.bool (.lit false)), (.any 5), (.asl 0 (.var 0)), (.int .i64 (.var 0)), (.asl 1 (.var 1)), (.int .i64 (.var 1)), (.bool (.icmp .neq (.var 0) (.var 1))), (.any 11), (.any 12), (.any 13), (.any 14), (.any 15), (.any 16), (.any 17), (.any 18), (.any 19), (.any 20), (.any 21), (.any 22), (.any 23), (.any 24), (.any 25)], [(some ⟨[], 61, true, false, (some ⟨(.var 0), [(.int .i64), (.int .i64), (.int .i64), (.int .i64), (.int .i64)], [(.avar 0), (.avar 1), (.avar 2), (.avar 3), (.avar 4)]⟩)⟩), (some ⟨[], 61, true, false, (some ⟨(.var 1), [(.int .i64), (.int .i64), (.int .i64), (.int .i64), (.int .i64)], [(.avar 5), (.avar 6), (.avar 7), (.avar 8), (.avar 9)]⟩)⟩)], []) ⟨0, 0, 0⟩
   (.ret ⟨[], [(.lit true)], []⟩ [])
   .nil)))
  (.ret ⟨[], [(.lit false)], []⟩ []))
theorem bx {x0 x1 : Int} {f0 f1 f2 f3 f4 f5 f6 f7 f8 f9 : Int → Int} (r0 : 0 ≤ x0 ∧ x0 ≤ 140737488355328) (r1 : 0 ≤ x1 ∧ x1 ≤ 140737488355328) (s0 : ∀ q, (-9223372036854775808) ≤ f0 q ∧ f0 q ≤ 9223372036854775807) (s1 : ∀ q, (-9223372036854775808) ≤ f1 q ∧ f1 q ≤ 9223372036854775807) (s2 : ∀ q, (-9223372036854775808) ≤ f2 q ∧ f2 q ≤ 9223372036854775807) (s3 : ∀ q, (-9223372036854775808) ≤ f3 q ∧ f3 q ≤ 9223372036854775807) (s4 : ∀ q, (-9223372036854775808) ≤ f4 q ∧ f4 q ≤ 9223372036854775807) (s5 : ∀ q, (-9223372036854775808) ≤ f5 q ∧ f5 q ≤ 9223372036854775807) (s6 : ∀ q, (-9223372036854775808) ≤ f6 q ∧ f6 q ≤ 9223372036854775807) (s7 : ∀ q, (-9223372036854775808) ≤ f7 q ∧ f7 q ≤ 9223372036854775807) (s8 : ∀ q, (-9223372036854775808) ≤ f8 q ∧ f8 q ≤ 9223372036854775807) (s9 : ∀ q, (-9223372036854775808) ≤ f9 q ∧ f9 q ≤ 9223372036854775807) {R : Bool → Prop}
  (H : ((((x0 : Int) == x1) = true → (∃ (I2 : Int → Prop) (rk2 : Int → Nat), I2 (0) ∧
    (∀ x2 : Int, I2 x2 → ((0 ≤ (x2 : Int) ∧ (x2 : Int) ≤ 140737488355328) ∧ ((decide ((x0 : Int) ≤ x2) = true → R (true)) ∧
     (decide ((x0 : Int) ≤ x2) = false → ((decide ((x1 : Int) ≤ x2) = true → False) ∧
      (decide ((x1 : Int) ≤ x2) = false → (((((f0 x2) : Int) == (f5 x2)) = true → (((((f1 x2) : Int) == (f6 x2)) = true → (((((f2 x2) : Int) == (f7 x2)) = true → (((((f3 x2) : Int) == (f8 x2)) = true → (((((f4 x2) : Int) == (f9 x2)) = true → (I2 ((x2 + 1)) ∧ rk2 ((x2 + 1)) < rk2 x2)) ∧
           ((((f4 x2) : Int) == (f9 x2)) = false → R (false)))) ∧
          ((((f3 x2) : Int) == (f8 x2)) = false → R (false)))) ∧
         ((((f2 x2) : Int) == (f7 x2)) = false → R (false)))) ∧
        ((((f1 x2) : Int) == (f6 x2)) = false → R (false)))) ∧
       ((((f0 x2) : Int) == (f5 x2)) = false → R (false))))))))))) ∧
   (((x0 : Int) == x1) = false → R (false)))) :
    ∃ u0 : Bool, R u0 ∧ Spec Tryz.prog etalonbase_Boxes_s ⟨[x0, x1], [], [f0, f1, f2, f3, f4, f5, f6, f7, f8, f9]⟩ [] [u0] [] :=
  Eq.mp (by kernel_rfl) (exV_of (K := fun d => app3 etalonbase_Boxes_s.out R d ∧ Spec Tryz.prog etalonbase_Boxes_s ⟨[x0, x1], [], [f0, f1, f2, f3, f4, f5, f6, f7, f8, f9]⟩ d.1 d.2.1 d.2.2) (tree_at mixed names S1_ok (S := S1 Tryz.prog) (lf := 100000) (d := 60) etalonbase_Boxes_s bx_t { ivs := [(0, 0, 140737488355328), (1, 0, 140737488355328)], aivs := [(0, (-9223372036854775808), 9223372036854775807), (1, (-9223372036854775808), 9223372036854775807), (2, (-9223372036854775808), 9223372036854775807), (3, (-9223372036854775808), 9223372036854775807), (4, (-9223372036854775808), 9223372036854775807), (5, (-9223372036854775808), 9223372036854775807), (6, (-9223372036854775808), 9223372036854775807), (7, (-9223372036854775808), 9223372036854775807), (8, (-9223372036854775808), 9223372036854775807), (9, (-9223372036854775808), 9223372036854775807)] } ⟨[x0, x1], [], [f0, f1, f2, f3, f4, f5, f6, f7, f8, f9]⟩ rfl (by kernel_rfl) (by kernel_rfl) (by kernel_rfl) ⟨(fc r0 (fc r1 fz)), fz, (fc s0 (fc s1 (fc s2 (fc s3 (fc s4 (fc s5 (fc s6 (fc s7 (fc s8 (fc s9 fz)))))))))), fz⟩ (R := fun d => app3 etalonbase_Boxes_s.out R d) (Eq.mp (by kernel_rfl) H)))

/-- The error of one box. -/

def boxE (a b c d e : Int) : Int := if ¬ (5000 ≤ a ∧ a ≤ 80000 ∧ 5000 ≤ b ∧ b ≤ 80000 ∧ 0 ≤ c ∧ c ≤ 1000000 ∧ 0 ≤ d ∧ d ≤ 1000000 ∧ 0 ≤ e ∧ e ≤ 80000) then 2 else if ¬ (a ≤ b ∧ c ≤ d) then 10 else 0

/-- The first error from i on. -/

def bfst (E : Int → Int) : Nat → Int → Int

  | 0, _ => 0

  | k + 1, i => if E i = 0 then bfst E k (i + 1) else E i

theorem bfst_all {E : Int → Int} : ∀ (k : Nat) (i : Int), bfst E k i = 0 → ∀ j, i ≤ j → j < i + k → E j = 0

  | 0, i, _, j, h1, h2 => by omega

  | k + 1, i, h, j, h1, h2 => by

    unfold bfst at h

    split at h

    · rename_i g

      by_cases e : j = i

      · subst e; exact g

      · exact bfst_all k (i + 1) h j (by omega) (by omega)

    · rename_i g; exact absurd h g

def E5 (f0 f1 f2 f3 f4 : Int → Int) (i : Int) : Int := boxE (f0 i) (f1 i) (f2 i) (f3 i) (f4 i)

/-- The error of boxes. -/

def bxsE (n : Int) (f0 f1 f2 f3 f4 : Int → Int) : Int := if n = 0 then 12 else if n ≤ 6 then bfst (E5 f0 f1 f2 f3 f4) n.toNat 0 else 8

theorem bfst_step {E : Int → Int} {n i : Int} (h : 0 ≤ i ∧ i < n) : bfst E (n - i).toNat i = if E i = 0 then bfst E (n - (i + 1)).toNat (i + 1) else E i := by

  rw [show (n - i).toNat = (n - (i + 1)).toNat + 1 by omega, bfst]

def I64r (f : Int → Int) : Prop := ∀ q, (-9223372036854775808) ≤ f q ∧ f q ≤ 9223372036854775807

theorem boxes_p {x0 : Int} {f0 f1 f2 f3 f4 : Int → Int} (r0 : 0 ≤ x0 ∧ x0 ≤ 140737488355328) (s0 : I64r f0) (s1 : I64r f1) (s2 : I64r f2) (s3 : I64r f3) (s4 : I64r f4) :

    Spec Tryz.prog fit_checkBoxes_s ⟨[x0], [], [f0, f1, f2, f3, f4]⟩ [bxsE x0 f0 f1 f2 f3 f4] [] [] := by

  obtain ⟨v, rfl, hs⟩ := cb r0 s0 s1 s2 s3 s4 (R := (· = bxsE x0 f0 f1 f2 f3 f4)) (by

    simp only [decide_eq_true_eq, decide_eq_false_iff_not, beq_iff_eq, beq_eq_false_iff_ne, ne_eq]

    unfold bxsE

    refine ⟨fun h => by rw [if_pos h], fun h => ⟨fun g => ?_, fun g => by rw [if_neg h, if_neg g]⟩⟩

    rw [if_neg h, if_pos g]

    refine ⟨fun i => 0 ≤ i ∧ i ≤ x0 ∧ bfst (E5 f0 f1 f2 f3 f4) (x0 - i).toNat i = bfst (E5 f0 f1 f2 f3 f4) x0.toNat 0, fun i => (x0 - i).toNat, ⟨by omega, by omega, by rw [Int.sub_zero]⟩, ?_⟩

    rintro i ⟨h0, h1, h2⟩

    refine ⟨by omega, fun h3 => ?_, fun h3 => ?_⟩

    · rw [← h2, show (x0 - i).toNat = 0 by omega]; rfl

    · have st := bfst_step (E := E5 f0 f1 f2 f3 f4) (n := x0) (i := i) (by omega)

      rw [← h2, st]

      have e2 : ¬ (5000 ≤ f0 i ∧ f0 i ≤ 80000 ∧ 5000 ≤ f1 i ∧ f1 i ≤ 80000 ∧ 0 ≤ f2 i ∧ f2 i ≤ 1000000 ∧ 0 ≤ f3 i ∧ f3 i ≤ 1000000 ∧ 0 ≤ f4 i ∧ f4 i ≤ 80000) → E5 f0 f1 f2 f3 f4 i = 2 := fun k => by unfold E5 boxE; rw [if_pos k]

      have e10 : (5000 ≤ f0 i ∧ f0 i ≤ 80000 ∧ 5000 ≤ f1 i ∧ f1 i ≤ 80000 ∧ 0 ≤ f2 i ∧ f2 i ≤ 1000000 ∧ 0 ≤ f3 i ∧ f3 i ≤ 1000000 ∧ 0 ≤ f4 i ∧ f4 i ≤ 80000) → ¬ (f0 i ≤ f1 i ∧ f2 i ≤ f3 i) → E5 f0 f1 f2 f3 f4 i = 10 := fun k l => by unfold E5 boxE; rw [if_neg (by omega), if_pos l]

      have e0 : (5000 ≤ f0 i ∧ f0 i ≤ 80000 ∧ 5000 ≤ f1 i ∧ f1 i ≤ 80000 ∧ 0 ≤ f2 i ∧ f2 i ≤ 1000000 ∧ 0 ≤ f3 i ∧ f3 i ≤ 1000000 ∧ 0 ≤ f4 i ∧ f4 i ≤ 80000) → (f0 i ≤ f1 i ∧ f2 i ≤ f3 i) → E5 f0 f1 f2 f3 f4 i = 0 := fun k l => by unfold E5 boxE; rw [if_neg (by omega), if_neg (by omega)]

      generalize E5 f0 f1 f2 f3 f4 i = E at *

      repeat' (first | (refine ⟨fun _ => ?_, fun _ => ?_⟩) | fail)

      all_goals first

        | (have := e2 (by omega); subst this; exact ⟨by omega, by omega, fun h => by omega, fun _ => by rw [if_neg (by decide)]⟩)

        | (have := e10 (by omega) (by omega); subst this; exact ⟨by omega, by omega, fun h => by omega, fun _ => by rw [if_neg (by decide)]⟩)

        | (have := e0 (by omega) (by omega); subst this; exact ⟨⟨by omega, by omega, by rw [if_pos rfl]⟩, by dsimp only; omega⟩)

        | omega)

  exact hs

theorem boxes_r {x0 : Int} {f0 f1 f2 f3 f4 : Int → Int} (r0 : 0 ≤ x0 ∧ x0 ≤ 140737488355328) (s0 : I64r f0) (s1 : I64r f1) (s2 : I64r f2) (s3 : I64r f3) (s4 : I64r f4) :

    Spec Tryz.prog etalonref07_BoxesErr_s ⟨[x0], [], [f0, f1, f2, f3, f4]⟩ [bxsE x0 f0 f1 f2 f3 f4] [] [] := by

  obtain ⟨k, v, rfl, hs⟩ := rcb r0 s0 s1 s2 s3 s4 (R := fun _ v => v = bxsE x0 f0 f1 f2 f3 f4) (by

    simp only [decide_eq_true_eq, decide_eq_false_iff_not, beq_iff_eq, beq_eq_false_iff_ne, ne_eq]

    unfold bxsE

    refine ⟨fun h => by rw [if_pos h], fun h => ⟨fun g => ?_, fun g => by rw [if_neg h, if_neg g]⟩⟩

    rw [if_neg h, if_pos g]

    refine ⟨fun i => 0 ≤ i ∧ i ≤ x0 ∧ bfst (E5 f0 f1 f2 f3 f4) (x0 - i).toNat i = bfst (E5 f0 f1 f2 f3 f4) x0.toNat 0, fun i => (x0 - i).toNat, ⟨by omega, by omega, by rw [Int.sub_zero]⟩, ?_⟩

    rintro i ⟨h0, h1, h2⟩

    refine ⟨by omega, fun h3 => ?_, fun h3 => ?_⟩

    · rw [← h2, show (x0 - i).toNat = 0 by omega]; rfl

    · have st := bfst_step (E := E5 f0 f1 f2 f3 f4) (n := x0) (i := i) (by omega)

      rw [← h2, st]

      have e2 : ¬ (5000 ≤ f0 i ∧ f0 i ≤ 80000 ∧ 5000 ≤ f1 i ∧ f1 i ≤ 80000 ∧ 0 ≤ f2 i ∧ f2 i ≤ 1000000 ∧ 0 ≤ f3 i ∧ f3 i ≤ 1000000 ∧ 0 ≤ f4 i ∧ f4 i ≤ 80000) → E5 f0 f1 f2 f3 f4 i = 2 := fun k => by unfold E5 boxE; rw [if_pos k]

      have e10 : (5000 ≤ f0 i ∧ f0 i ≤ 80000 ∧ 5000 ≤ f1 i ∧ f1 i ≤ 80000 ∧ 0 ≤ f2 i ∧ f2 i ≤ 1000000 ∧ 0 ≤ f3 i ∧ f3 i ≤ 1000000 ∧ 0 ≤ f4 i ∧ f4 i ≤ 80000) → ¬ (f0 i ≤ f1 i ∧ f2 i ≤ f3 i) → E5 f0 f1 f2 f3 f4 i = 10 := fun k l => by unfold E5 boxE; rw [if_neg (by omega), if_pos l]

      have e0 : (5000 ≤ f0 i ∧ f0 i ≤ 80000 ∧ 5000 ≤ f1 i ∧ f1 i ≤ 80000 ∧ 0 ≤ f2 i ∧ f2 i ≤ 1000000 ∧ 0 ≤ f3 i ∧ f3 i ≤ 1000000 ∧ 0 ≤ f4 i ∧ f4 i ≤ 80000) → (f0 i ≤ f1 i ∧ f2 i ≤ f3 i) → E5 f0 f1 f2 f3 f4 i = 0 := fun k l => by unfold E5 boxE; rw [if_neg (by omega), if_neg (by omega)]

      generalize E5 f0 f1 f2 f3 f4 i = E at *

      repeat' (first | (refine ⟨fun _ => ?_, fun _ => ?_⟩) | fail)

      all_goals first

        | (have := e2 (by omega); subst this; exact ⟨by omega, by omega, by rw [if_neg (by decide)]⟩)

        | (have := e10 (by omega) (by omega); subst this; exact ⟨by omega, by omega, by rw [if_neg (by decide)]⟩)

        | (have := e0 (by omega) (by omega); subst this; exact ⟨⟨by omega, by omega, by rw [if_pos rfl]⟩, by dsimp only; omega⟩)

        | omega)

  obtain ⟨w, rfl, hb⟩ := rbe r0 s0 s1 s2 s3 s4 (R := (· = bxsE x0 f0 f1 f2 f3 f4)) ⟨_, _, hs, rfl⟩

  exact hb

theorem same_s {x0 : Int} {f0 f1 f2 f3 f4 f5 f6 f7 f8 f9 : Int → Int} (r0 : 0 ≤ x0 ∧ x0 ≤ 140737488355328) (s0 : I64r f0) (s1 : I64r f1) (s2 : I64r f2) (s3 : I64r f3) (s4 : I64r f4) (s5 : I64r f5) (s6 : I64r f6) (s7 : I64r f7) (s8 : I64r f8) (s9 : I64r f9)

    (h : ∀ q, 0 ≤ q → q < x0 → f0 q = f5 q ∧ f1 q = f6 q ∧ f2 q = f7 q ∧ f3 q = f8 q ∧ f4 q = f9 q) : Spec Tryz.prog etalonbase_Boxes_s ⟨[x0, x0], [], [f0, f1, f2, f3, f4, f5, f6, f7, f8, f9]⟩ [] [true] [] := by

  obtain ⟨v, rfl, hs⟩ := bx r0 r0 s0 s1 s2 s3 s4 s5 s6 s7 s8 s9 (R := (· = true)) (by

    simp only [decide_eq_true_eq, decide_eq_false_iff_not, beq_iff_eq, beq_eq_false_iff_ne, ne_eq]

    refine ⟨fun _ => ⟨fun i => 0 ≤ i ∧ i ≤ x0, fun i => (x0 - i).toNat, by omega, ?_⟩, fun g => absurd trivial g⟩

    rintro i ⟨h0, h1⟩

    refine ⟨by omega, fun _ => trivial, fun h2 => ⟨fun h3 => absurd h3 h2, fun _ => ?_⟩⟩

    obtain ⟨k0, k1, k2, k3, k4⟩ := h i h0 (by omega)

    exact ⟨fun _ => ⟨fun _ => ⟨fun _ => ⟨fun _ => ⟨fun _ => ⟨⟨by omega, by omega⟩, by dsimp only; omega⟩, fun g => absurd k4 g⟩, fun g => absurd k3 g⟩, fun g => absurd k2 g⟩, fun g => absurd k1 g⟩, fun g => absurd k0 g⟩)

  exact hs

end Go.Proofs.YtmlkejbofnafeaaGreat.Ev
