/- Which tracks are right: the program and the reference say the same. -/
import Derived.Test.YtikekimiionllaaFgqa
namespace Go.Proofs.Ytikekimiionllaa.Ev
set_option linter.unusedSimpArgs false
open Go Go.RowKit
set_option linter.unusedVariables false
set_option maxRecDepth 100000
def grow_CheckTrack_s : Sig := ⟨7, ⟨4, 0, 2⟩, ⟨2, 0, 0⟩, [(.agg [(.int .i64 (.var 0)), (.int .i64 (.var 1)), (.int .i64 (.var 2)), (.asl 0 (.var 3))])], [(some ⟨[], 77, true, false, (some ⟨(.var 3), [(.int .i64), (.int .i64)], [(.avar 0), (.avar 1)]⟩)⟩)], (.tuple [(.int .i64 (.var 4)), (.int .i64 (.var 5))]), []⟩
def etalonref08_CheckTrack_s : Sig := ⟨11, ⟨4, 0, 2⟩, ⟨2, 0, 0⟩, [(.agg [(.int .i64 (.var 0)), (.int .i64 (.var 1)), (.int .i64 (.var 2)), (.asl 0 (.var 3))])], [(some ⟨[], 77, true, false, (some ⟨(.var 3), [(.int .i64), (.int .i64)], [(.avar 0), (.avar 1)]⟩)⟩)], (.tuple [(.int .i64 (.var 4)), (.int .i64 (.var 5))]), []⟩

def ct_t : Tr :=
  (.call grow_checkRate_s ⟨[(.var 0), (.var 1)], [], []⟩ ⟨[(.var 0), (.var 1), (.var 4)], [], []⟩ ⟨25, [(.agg [(.int .i64 (.var 0)), (.int .i64 (.var 1))])], [], [none, none], (.int .i64 (.var 4)), []⟩
  (.ite (.icmp .eql (.var 4) (.lit 0))
  (.ite (.icmp .leq (.lit 0) (.var 2))
   (.ite (.icmp .leq (.var 2) (.lit 1000000))
    (.ite (.icmp .leq (.var 3) (.lit 40))
     (.loop ⟨7, [0, 1, 0, 1, 1, 1, 1, 1], [(.agg [(.int .i64 (.var 0)), (.int .i64 (.var 1)), (.int .i64 (.var 2)), (.asl 0 (.var 3))]), (.ptr (some ⟨1, 0, none⟩)), (.int .i64 (.lit 0)), (.int .i64 (.lit 0)), (.int .i64 (.var 4)), (.int .i64 (.lit 0)), (.tuple []), (.tuple []), (.ptr (some ⟨1, 0, none⟩)), (.agg [(.int .i64 (.var 0)), (.int .i64 (.var 1))]), (.int .i64 (.var 4)), (.int .i64 (.var 4)), (.bool (.icmp .neq (.var 4) (.lit 0))), (.tuple []), (.ptr (some ⟨1, 2, none⟩)), (.int .i64 (.var 2)), (.bool (.icmp .leq (.var 2) (.lit 1000000))), (.bool (.not (.icmp .leq (.var 2) (.lit 1000000)))), (.ptr (some ⟨1, 3, none⟩)), (.asl 0 (.var 3)), (.int .i64 (.var 3)), (.bool (.icmp .gtr (.var 3) (.lit 40))), (.ptr (some ⟨1, 3, none⟩)), (.asl 0 (.var 3)), (.int .i64 (.var 3)), (.int .i64 (.lit 0)), (.tuple []), (.tuple []), (.tuple []), (.tuple []), (.tuple []), (.tuple []), (.tuple []), (.tuple []), (.tuple []), (.tuple []), (.tuple []), (.tuple []), (.tuple []), (.tuple []), (.tuple []), (.tuple []), (.tuple []), (.tuple []), (.tuple []), (.tuple []), (.tuple []), (.tuple []), (.tuple [])], [(some ⟨[], 77, true, false, (some ⟨(.var 3), [(.int .i64), (.int .i64)], [(.avar 0), (.avar 1)]⟩)⟩), (some ⟨[(.int .i64 (.var 0)), (.int .i64 (.var 1)), (.int .i64 (.var 2)), (.asl 0 (.var 3))], 26, false, false, none⟩)], [], [(.agg [(.int .i64 (.var 0)), (.int .i64 (.var 1)), (.int .i64 (.var 2)), (.asl 0 (.var 3))]), (.ptr (some ⟨1, 0, none⟩)), (.int .i64 (.lit 0)), (.int .i64 (.lit 0)), (.int .i64 (.var 4)), (.int .i64 (.var 5)), (.any 6), (.any 7), (.ptr (some ⟨1, 0, none⟩)), (.agg [(.int .i64 (.var 0)), (.int .i64 (.var 1))]), (.int .i64 (.var 4)), (.int .i64 (.var 4)), (.bool (.icmp .neq (.var 4) (.lit 0))), (.tuple []), (.ptr (some ⟨1, 2, none⟩)), (.int .i64 (.var 2)), (.bool (.icmp .leq (.var 2) (.lit 1000000))), (.bool (.not (.icmp .leq (.var 2) (.lit 1000000)))), (.ptr (some ⟨1, 3, none⟩)), (.asl 0 (.var 3)), (.int .i64 (.var 3)), (.bool (.icmp .gtr (.var 3) (.lit 40))), (.ptr (some ⟨1, 3, none⟩)), (.asl 0 (.var 3)), (.int .i64 (.var 3)), (.int .i64 (.var 6)), (.any 26), (.any 27), (.any 28), (.any 29), (.any 30), (.any 31), (.any 32), (.any 33), (.any 34), (.any 35), (.any 36), (.any 37), (.any 38), (.any 39), (.tuple []), (.any 41), (.any 42), (.any 43), (.any 44), (.tuple []), (.any 46), (.any 47), (.any 48)], [(some ⟨[], 77, true, false, (some ⟨(.var 3), [(.int .i64), (.int .i64)], [(.avar 0), (.avar 1)]⟩)⟩), (some ⟨[(.int .i64 (.var 0)), (.int .i64 (.var 1)), (.int .i64 (.var 2)), (.asl 0 (.var 3))], 26, false, false, none⟩)], [], ⟨2, 0, 0⟩, ⟨[(.lit 0), (.lit 0)], [], []⟩, []⟩
      (.rng 5 0 100000 (.rng 6 0 41 (.ite (.icmp .leq (.var 3) (.var 6))
       (.out 1 ⟨[], [], []⟩ [])
       (.ite (.icmp .leq (.lit 1) (.sel (.avar 0) (.var 6)))
        (.ite (.icmp .leq (.sel (.avar 0) (.var 6)) (.lit 100000))
         (.ite (.icmp .leq (.lit 0) (.sel (.avar 1) (.var 6)))
          (.ite (.icmp .leq (.sel (.avar 1) (.var 6)) (.lit 1000000))
           (.ite (.icmp .leq (.sel (.avar 0) (.var 6)) (.var 5))
            (.out 0 ⟨[(.var 6), (.lit 10)], [], []⟩ [])
            (.next ⟨[(.sel (.avar 0) (.var 6)), (.bin .addI (.var 6) (.lit 1))], [], []⟩ []))
           (.out 0 ⟨[(.var 6), (.lit 2)], [], []⟩ []))
          (.out 0 ⟨[(.var 6), (.lit 2)], [], []⟩ []))
         (.out 0 ⟨[(.var 6), (.lit 2)], [], []⟩ []))
        (.out 0 ⟨[(.var 6), (.lit 2)], [], []⟩ [])))))
      (.ex (.ret, [(.agg [(.int .i64 (.var 0)), (.int .i64 (.var 1)), (.int .i64 (.var 2)), (.asl 0 (.var 3))]), (.ptr (some ⟨1, 0, none⟩)), (.int .i64 (.var 5)), (.int .i64 (.var 6)), (.int .i64 (.var 4)), (.any 5), (.any 6), (.any 7), (.ptr (some ⟨1, 0, none⟩)), (.agg [(.int .i64 (.var 0)), (.int .i64 (.var 1))]), (.int .i64 (.var 4)), (.int .i64 (.var 4)), (.bool (.icmp .neq (.var 4) (.lit 0))), (.tuple []), (.ptr (some ⟨1, 2, none⟩)), (.int .i64 (.var 2)), (.bool (.icmp .leq (.var 2) (.lit 1000000))), (.bool (.not (.icmp .leq (.var 2) (.lit 1000000)))), (.ptr (some ⟨1, 3, none⟩)), (.asl 0 (.var 3)), (.int .i64 (.var 3)), (.bool (.icmp .gtr (.var 3) (.lit 40))), (.ptr (some ⟨1, 3, none⟩)), (.asl 0 (.var 3)), (.int .i64 (.var 3)), (.any 25), (.any 26), (.any 27), (.any 28), (.any 29), (.any 30), (.any 31), (.any 32), (.any 33), (.any 34), (.any 35), (.any 36), (.any 37), (.any 38), (.any 39), (.any 40), (.any 41), (.any 42), (.any 43), (.any 44), (.any 45), (.any 46), (.any 47), (.any 48)], [(some ⟨[], 77, true, false, (some ⟨(.var 3), [(.int .i64), (.int .i64)], [(.avar 0), (.avar 1)]⟩)⟩), (some ⟨[(.int .i64 (.var 0)), (.int .i64 (.var 1)), (.int .i64 (.var 2)), (.asl 0 (.var 3))], 26, false, false, none⟩)], []) ⟨2, 0, 0⟩
      (.rng 5 (-9223372036854775808) 9223372036854775807 (.rng 6 (-9223372036854775808) 9223372036854775807 (.ret ⟨[(.var 5), (.var 6)], [], []⟩ [])))
      (.ex ((.exit 0), [(.agg [(.int .i64 (.var 0)), (.int .i64 (.var 1)), (.int .i64 (.var 2)), (.asl 0 (.var 3))]), (.ptr (some ⟨1, 0, none⟩)), (.int .i64 (.lit 0)), (.int .i64 (.lit 0)), (.int .i64 (.var 4)), (.any 5), (.any 6), (.any 7), (.ptr (some ⟨1, 0, none⟩)), (.agg [(.int .i64 (.var 0)), (.int .i64 (.var 1))]), (.int .i64 (.var 4)), (.int .i64 (.var 4)), (.bool (.icmp .neq (.var 4) (.lit 0))), (.tuple []), (.ptr (some ⟨1, 2, none⟩)), (.int .i64 (.var 2)), (.bool (.icmp .leq (.var 2) (.lit 1000000))), (.bool (.not (.icmp .leq (.var 2) (.lit 1000000)))), (.ptr (some ⟨1, 3, none⟩)), (.asl 0 (.var 3)), (.int .i64 (.var 3)), (.bool (.icmp .gtr (.var 3) (.lit 40))), (.ptr (some ⟨1, 3, none⟩)), (.asl 0 (.var 3)), (.int .i64 (.var 3)), (.any 25), (.any 26), (.any 27), (.any 28), (.any 29), (.any 30), (.any 31), (.any 32), (.any 33), (.any 34), (.any 35), (.any 36), (.any 37), (.any 38), (.any 39), (.tuple []), (.any 41), (.any 42), (.any 43), (.any 44), (.tuple []), (.any 46), (.any 47), (.any 48)], [(some ⟨[], 77, true, false, (some ⟨(.var 3), [(.int .i64), (.int .i64)], [(.avar 0), (.avar 1)]⟩)⟩), (some ⟨[(.int .i64 (.var 0)), (.int .i64 (.var 1)), (.int .i64 (.var 2)), (.asl 0 (.var 3))], 26, false, false, none⟩)], []) ⟨0, 0, 0⟩
      (.ret ⟨[(.lit 0), (.lit 0)], [], []⟩ [])
      .nil)))
     (.ret ⟨[(.lit 0), (.lit 8)], [], []⟩ []))
    (.ret ⟨[(.lit 0), (.lit 2)], [], []⟩ []))
   (.ret ⟨[(.lit 0), (.lit 2)], [], []⟩ []))
  (.ret ⟨[(.lit 0), (.var 4)], [], []⟩ [])))
theorem ct {x0 x1 x2 x3 : Int} {f0 f1 : Int → Int} (r0 : (-9223372036854775808) ≤ x0 ∧ x0 ≤ 9223372036854775807) (r1 : (-9223372036854775808) ≤ x1 ∧ x1 ≤ 9223372036854775807) (r2 : (-9223372036854775808) ≤ x2 ∧ x2 ≤ 9223372036854775807) (r3 : 0 ≤ x3 ∧ x3 ≤ 140737488355328) (s0 : ∀ q, (-9223372036854775808) ≤ f0 q ∧ f0 q ≤ 9223372036854775807) (s1 : ∀ q, (-9223372036854775808) ≤ f1 q ∧ f1 q ≤ 9223372036854775807) {R : Int → Int → Prop}
  (H : (∃ v4 : Int, Spec Try.prog grow_checkRate_s ⟨[x0, x1], [], []⟩ [v4] [] [] ∧
   ((((v4 : Int) == 0) = true → ((decide ((0 : Int) ≤ x2) = true → ((decide ((x2 : Int) ≤ 1000000) = true → ((decide ((x3 : Int) ≤ 40) = true → (∃ (I5 : Int → Int → Prop) (rk5 : Int → Int → Nat), I5 (0) (0) ∧
       (∀ x5 : Int, ∀ x6 : Int, I5 x5 x6 → ((0 ≤ (x5 : Int) ∧ (x5 : Int) ≤ 100000) ∧ ((0 ≤ (x6 : Int) ∧ (x6 : Int) ≤ 41) ∧ ((decide ((x3 : Int) ≤ x6) = true → R (0) (0)) ∧
        (decide ((x3 : Int) ≤ x6) = false → ((decide ((1 : Int) ≤ (f0 x6)) = true → ((decide (((f0 x6) : Int) ≤ 100000) = true → ((decide ((0 : Int) ≤ (f1 x6)) = true → ((decide (((f1 x6) : Int) ≤ 1000000) = true → ((decide (((f0 x6) : Int) ≤ x5) = true → (((-9223372036854775808) ≤ ((x6) : Int) ∧ ((x6) : Int) ≤ 9223372036854775807) ∧ (((-9223372036854775808) ≤ ((10) : Int) ∧ ((10) : Int) ≤ 9223372036854775807) ∧ R ((x6)) ((10))))) ∧
             (decide (((f0 x6) : Int) ≤ x5) = false → (I5 ((f0 x6)) ((x6 + 1)) ∧ rk5 ((f0 x6)) ((x6 + 1)) < rk5 x5 x6)))) ∧
            (decide (((f1 x6) : Int) ≤ 1000000) = false → (((-9223372036854775808) ≤ ((x6) : Int) ∧ ((x6) : Int) ≤ 9223372036854775807) ∧ (((-9223372036854775808) ≤ ((2) : Int) ∧ ((2) : Int) ≤ 9223372036854775807) ∧ R ((x6)) ((2))))))) ∧
           (decide ((0 : Int) ≤ (f1 x6)) = false → (((-9223372036854775808) ≤ ((x6) : Int) ∧ ((x6) : Int) ≤ 9223372036854775807) ∧ (((-9223372036854775808) ≤ ((2) : Int) ∧ ((2) : Int) ≤ 9223372036854775807) ∧ R ((x6)) ((2))))))) ∧
          (decide (((f0 x6) : Int) ≤ 100000) = false → (((-9223372036854775808) ≤ ((x6) : Int) ∧ ((x6) : Int) ≤ 9223372036854775807) ∧ (((-9223372036854775808) ≤ ((2) : Int) ∧ ((2) : Int) ≤ 9223372036854775807) ∧ R ((x6)) ((2))))))) ∧
         (decide ((1 : Int) ≤ (f0 x6)) = false → (((-9223372036854775808) ≤ ((x6) : Int) ∧ ((x6) : Int) ≤ 9223372036854775807) ∧ (((-9223372036854775808) ≤ ((2) : Int) ∧ ((2) : Int) ≤ 9223372036854775807) ∧ R ((x6)) ((2))))))))))))) ∧
      (decide ((x3 : Int) ≤ 40) = false → R (0) (8)))) ∧
     (decide ((x2 : Int) ≤ 1000000) = false → R (0) (2)))) ∧
    (decide ((0 : Int) ≤ x2) = false → R (0) (2)))) ∧
   (((v4 : Int) == 0) = false → R (0) (v4))))) :
    ∃ v0 : Int, ∃ v1 : Int, R v0 v1 ∧ Spec Try.prog grow_CheckTrack_s ⟨[x0, x1, x2, x3], [], [f0, f1]⟩ [v0, v1] [] [] :=
  Eq.mp (by kernel_rfl) (exV_of (K := fun d => app3 grow_CheckTrack_s.out R d ∧ Spec Try.prog grow_CheckTrack_s ⟨[x0, x1, x2, x3], [], [f0, f1]⟩ d.1 d.2.1 d.2.2) (tree_at mixed names S1_ok (S := S1 Try.prog) (lf := 100000) (d := 60) grow_CheckTrack_s ct_t { ivs := [(0, (-9223372036854775808), 9223372036854775807), (1, (-9223372036854775808), 9223372036854775807), (2, (-9223372036854775808), 9223372036854775807), (3, 0, 140737488355328)], aivs := [(0, (-9223372036854775808), 9223372036854775807), (1, (-9223372036854775808), 9223372036854775807)] } ⟨[x0, x1, x2, x3], [], [f0, f1]⟩ rfl (by kernel_rfl) (by kernel_rfl) (by kernel_rfl) ⟨(fc r0 (fc r1 (fc r2 (fc r3 fz)))), fz, (fc s0 (fc s1 fz)), fz⟩ (R := fun d => app3 grow_CheckTrack_s.out R d) (Eq.mp (by kernel_rfl) H)))

def rt_t : Tr :=
  (.call etalonref08_RateErr_s ⟨[(.var 0), (.var 1)], [], []⟩ ⟨[(.var 0), (.var 1), (.var 4)], [], []⟩ ⟨29, [(.agg [(.int .i64 (.var 0)), (.int .i64 (.var 1))])], [], [none, none], (.int .i64 (.var 4)), []⟩
  (.ite (.icmp .eql (.var 4) (.lit 0))
  (.ite (.icmp .leq (.lit 0) (.var 2))
   (.ite (.icmp .leq (.var 2) (.lit 1000000))
    (.ite (.icmp .leq (.var 3) (.lit 40))
     (.loop ⟨11, [0, 1, 0, 1, 1, 1, 1], [(.agg [(.int .i64 (.var 0)), (.int .i64 (.var 1)), (.int .i64 (.var 2)), (.asl 0 (.var 3))]), (.ptr (some ⟨1, 0, none⟩)), (.int .i64 (.lit 0)), (.int .i64 (.lit 0)), (.int .i64 (.var 4)), (.int .i64 (.lit 0)), (.tuple []), (.ptr (some ⟨1, 0, none⟩)), (.agg [(.int .i64 (.var 0)), (.int .i64 (.var 1))]), (.int .i64 (.var 4)), (.int .i64 (.var 4)), (.bool (.icmp .neq (.var 4) (.lit 0))), (.tuple []), (.ptr (some ⟨1, 2, none⟩)), (.int .i64 (.var 2)), (.bool (.icmp .leq (.var 2) (.lit 1000000))), (.bool (.not (.icmp .leq (.var 2) (.lit 1000000)))), (.ptr (some ⟨1, 3, none⟩)), (.asl 0 (.var 3)), (.int .i64 (.var 3)), (.bool (.icmp .gtr (.var 3) (.lit 40))), (.tuple []), (.tuple []), (.tuple []), (.tuple []), (.tuple []), (.tuple []), (.tuple []), (.tuple []), (.tuple []), (.tuple []), (.tuple []), (.tuple []), (.tuple []), (.tuple []), (.tuple []), (.tuple []), (.tuple []), (.tuple []), (.tuple []), (.tuple []), (.tuple []), (.tuple []), (.tuple []), (.tuple []), (.tuple []), (.tuple []), (.tuple []), (.tuple []), (.tuple []), (.tuple []), (.tuple []), (.tuple []), (.tuple []), (.tuple []), (.tuple []), (.tuple []), (.tuple []), (.tuple [])], [(some ⟨[], 77, true, false, (some ⟨(.var 3), [(.int .i64), (.int .i64)], [(.avar 0), (.avar 1)]⟩)⟩), (some ⟨[(.int .i64 (.var 0)), (.int .i64 (.var 1)), (.int .i64 (.var 2)), (.asl 0 (.var 3))], 26, false, false, none⟩)], [], [(.agg [(.int .i64 (.var 0)), (.int .i64 (.var 1)), (.int .i64 (.var 2)), (.asl 0 (.var 3))]), (.ptr (some ⟨1, 0, none⟩)), (.int .i64 (.lit 0)), (.int .i64 (.lit 0)), (.int .i64 (.var 4)), (.int .i64 (.var 5)), (.any 6), (.ptr (some ⟨1, 0, none⟩)), (.agg [(.int .i64 (.var 0)), (.int .i64 (.var 1))]), (.int .i64 (.var 4)), (.int .i64 (.var 4)), (.bool (.icmp .neq (.var 4) (.lit 0))), (.tuple []), (.ptr (some ⟨1, 2, none⟩)), (.int .i64 (.var 2)), (.bool (.icmp .leq (.var 2) (.lit 1000000))), (.bool (.not (.icmp .leq (.var 2) (.lit 1000000)))), (.ptr (some ⟨1, 3, none⟩)), (.asl 0 (.var 3)), (.int .i64 (.var 3)), (.bool (.icmp .gtr (.var 3) (.lit 40))), (.any 21), (.any 22), (.any 23), (.any 24), (.any 25), (.any 26), (.any 27), (.any 28), (.any 29), (.any 30), (.any 31), (.any 32), (.any 33), (.any 34), (.any 35), (.any 36), (.any 37), (.any 38), (.any 39), (.any 40), (.any 41), (.any 42), (.tuple []), (.any 44), (.any 45), (.any 46), (.any 47), (.any 48), (.any 49), (.any 50), (.any 51), (.any 52), (.any 53), (.any 54), (.any 55), (.any 56), (.any 57), (.tuple [])], [(some ⟨[], 77, true, false, (some ⟨(.var 3), [(.int .i64), (.int .i64)], [(.avar 0), (.avar 1)]⟩)⟩), (some ⟨[(.int .i64 (.var 0)), (.int .i64 (.var 1)), (.int .i64 (.var 2)), (.asl 0 (.var 3))], 26, false, false, none⟩)], [], ⟨1, 0, 0⟩, ⟨[(.lit 0)], [], []⟩, []⟩
      (.rng 5 0 41 (.ite (.icmp .leq (.var 3) (.var 5))
       (.out 1 ⟨[], [], []⟩ [])
       (.ite (.icmp .leq (.lit 1) (.sel (.avar 0) (.var 5)))
        (.ite (.icmp .leq (.sel (.avar 0) (.var 5)) (.lit 100000))
         (.ite (.icmp .leq (.lit 0) (.sel (.avar 1) (.var 5)))
          (.ite (.icmp .leq (.sel (.avar 1) (.var 5)) (.lit 1000000))
           (.ite (.icmp .leq (.var 5) (.lit 0))
            (.next ⟨[(.bin .addI (.var 5) (.lit 1))], [], []⟩ [])
            (.ite (.icmp .leq (.var 3) (.bin .subI (.var 5) (.lit 1)))
             .nil
             (.ite (.icmp .leq (.sel (.avar 0) (.var 5)) (.sel (.avar 0) (.bin .subI (.var 5) (.lit 1))))
              (.out 0 ⟨[(.var 5), (.lit 10)], [], []⟩ [])
              (.next ⟨[(.bin .addI (.var 5) (.lit 1))], [], []⟩ []))))
           (.out 0 ⟨[(.var 5), (.lit 2)], [], []⟩ []))
          (.out 0 ⟨[(.var 5), (.lit 2)], [], []⟩ []))
         (.out 0 ⟨[(.var 5), (.lit 2)], [], []⟩ []))
        (.out 0 ⟨[(.var 5), (.lit 2)], [], []⟩ []))))
      (.ex (.ret, [(.agg [(.int .i64 (.var 0)), (.int .i64 (.var 1)), (.int .i64 (.var 2)), (.asl 0 (.var 3))]), (.ptr (some ⟨1, 0, none⟩)), (.int .i64 (.var 5)), (.int .i64 (.var 6)), (.int .i64 (.var 4)), (.any 5), (.any 6), (.ptr (some ⟨1, 0, none⟩)), (.agg [(.int .i64 (.var 0)), (.int .i64 (.var 1))]), (.int .i64 (.var 4)), (.int .i64 (.var 4)), (.bool (.icmp .neq (.var 4) (.lit 0))), (.tuple []), (.ptr (some ⟨1, 2, none⟩)), (.int .i64 (.var 2)), (.bool (.icmp .leq (.var 2) (.lit 1000000))), (.bool (.not (.icmp .leq (.var 2) (.lit 1000000)))), (.ptr (some ⟨1, 3, none⟩)), (.asl 0 (.var 3)), (.int .i64 (.var 3)), (.bool (.icmp .gtr (.var 3) (.lit 40))), (.any 21), (.any 22), (.any 23), (.any 24), (.any 25), (.any 26), (.any 27), (.any 28), (.any 29), (.any 30), (.any 31), (.any 32), (.any 33), (.any 34), (.any 35), (.any 36), (.any 37), (.any 38), (.any 39), (.any 40), (.any 41), (.any 42), (.any 43), (.any 44), (.any 45), (.any 46), (.any 47), (.any 48), (.any 49), (.any 50), (.any 51), (.any 52), (.any 53), (.any 54), (.any 55), (.any 56), (.any 57), (.any 58)], [(some ⟨[], 77, true, false, (some ⟨(.var 3), [(.int .i64), (.int .i64)], [(.avar 0), (.avar 1)]⟩)⟩), (some ⟨[(.int .i64 (.var 0)), (.int .i64 (.var 1)), (.int .i64 (.var 2)), (.asl 0 (.var 3))], 26, false, false, none⟩)], []) ⟨2, 0, 0⟩
      (.rng 5 (-9223372036854775808) 9223372036854775807 (.rng 6 (-9223372036854775808) 9223372036854775807 (.ret ⟨[(.var 5), (.var 6)], [], []⟩ [])))
      (.ex ((.exit 0), [(.agg [(.int .i64 (.var 0)), (.int .i64 (.var 1)), (.int .i64 (.var 2)), (.asl 0 (.var 3))]), (.ptr (some ⟨1, 0, none⟩)), (.int .i64 (.lit 0)), (.int .i64 (.lit 0)), (.int .i64 (.var 4)), (.any 5), (.any 6), (.ptr (some ⟨1, 0, none⟩)), (.agg [(.int .i64 (.var 0)), (.int .i64 (.var 1))]), (.int .i64 (.var 4)), (.int .i64 (.var 4)), (.bool (.icmp .neq (.var 4) (.lit 0))), (.tuple []), (.ptr (some ⟨1, 2, none⟩)), (.int .i64 (.var 2)), (.bool (.icmp .leq (.var 2) (.lit 1000000))), (.bool (.not (.icmp .leq (.var 2) (.lit 1000000)))), (.ptr (some ⟨1, 3, none⟩)), (.asl 0 (.var 3)), (.int .i64 (.var 3)), (.bool (.icmp .gtr (.var 3) (.lit 40))), (.any 21), (.any 22), (.any 23), (.any 24), (.any 25), (.any 26), (.any 27), (.any 28), (.any 29), (.any 30), (.any 31), (.any 32), (.any 33), (.any 34), (.any 35), (.any 36), (.any 37), (.any 38), (.any 39), (.any 40), (.any 41), (.any 42), (.tuple []), (.any 44), (.any 45), (.any 46), (.any 47), (.any 48), (.any 49), (.any 50), (.any 51), (.any 52), (.any 53), (.any 54), (.any 55), (.any 56), (.any 57), (.tuple [])], [(some ⟨[], 77, true, false, (some ⟨(.var 3), [(.int .i64), (.int .i64)], [(.avar 0), (.avar 1)]⟩)⟩), (some ⟨[(.int .i64 (.var 0)), (.int .i64 (.var 1)), (.int .i64 (.var 2)), (.asl 0 (.var 3))], 26, false, false, none⟩)], []) ⟨0, 0, 0⟩
      (.ret ⟨[(.lit 0), (.lit 0)], [], []⟩ [])
      .nil)))
     (.ret ⟨[(.lit 0), (.lit 8)], [], []⟩ []))
    (.ret ⟨[(.lit 0), (.lit 2)], [], []⟩ []))
   (.ret ⟨[(.lit 0), (.lit 2)], [], []⟩ []))
  (.ret ⟨[(.lit 0), (.var 4)], [], []⟩ [])))
theorem rt {x0 x1 x2 x3 : Int} {f0 f1 : Int → Int} (r0 : (-9223372036854775808) ≤ x0 ∧ x0 ≤ 9223372036854775807) (r1 : (-9223372036854775808) ≤ x1 ∧ x1 ≤ 9223372036854775807) (r2 : (-9223372036854775808) ≤ x2 ∧ x2 ≤ 9223372036854775807) (r3 : 0 ≤ x3 ∧ x3 ≤ 140737488355328) (s0 : ∀ q, (-9223372036854775808) ≤ f0 q ∧ f0 q ≤ 9223372036854775807) (s1 : ∀ q, (-9223372036854775808) ≤ f1 q ∧ f1 q ≤ 9223372036854775807) {R : Int → Int → Prop}
  (H : (∃ v4 : Int, Spec Try.prog etalonref08_RateErr_s ⟨[x0, x1], [], []⟩ [v4] [] [] ∧
   ((((v4 : Int) == 0) = true → ((decide ((0 : Int) ≤ x2) = true → ((decide ((x2 : Int) ≤ 1000000) = true → ((decide ((x3 : Int) ≤ 40) = true → (∃ (I5 : Int → Prop) (rk5 : Int → Nat), I5 (0) ∧
       (∀ x5 : Int, I5 x5 → ((0 ≤ (x5 : Int) ∧ (x5 : Int) ≤ 41) ∧ ((decide ((x3 : Int) ≤ x5) = true → R (0) (0)) ∧
        (decide ((x3 : Int) ≤ x5) = false → ((decide ((1 : Int) ≤ (f0 x5)) = true → ((decide (((f0 x5) : Int) ≤ 100000) = true → ((decide ((0 : Int) ≤ (f1 x5)) = true → ((decide (((f1 x5) : Int) ≤ 1000000) = true → ((decide ((x5 : Int) ≤ 0) = true → (I5 ((x5 + 1)) ∧ rk5 ((x5 + 1)) < rk5 x5)) ∧
             (decide ((x5 : Int) ≤ 0) = false → ((decide ((x3 : Int) ≤ (x5 - 1)) = true → False) ∧
              (decide ((x3 : Int) ≤ (x5 - 1)) = false → ((decide (((f0 x5) : Int) ≤ (f0 (x5 - 1))) = true → (((-9223372036854775808) ≤ ((x5) : Int) ∧ ((x5) : Int) ≤ 9223372036854775807) ∧ (((-9223372036854775808) ≤ ((10) : Int) ∧ ((10) : Int) ≤ 9223372036854775807) ∧ R ((x5)) ((10))))) ∧
               (decide (((f0 x5) : Int) ≤ (f0 (x5 - 1))) = false → (I5 ((x5 + 1)) ∧ rk5 ((x5 + 1)) < rk5 x5)))))))) ∧
            (decide (((f1 x5) : Int) ≤ 1000000) = false → (((-9223372036854775808) ≤ ((x5) : Int) ∧ ((x5) : Int) ≤ 9223372036854775807) ∧ (((-9223372036854775808) ≤ ((2) : Int) ∧ ((2) : Int) ≤ 9223372036854775807) ∧ R ((x5)) ((2))))))) ∧
           (decide ((0 : Int) ≤ (f1 x5)) = false → (((-9223372036854775808) ≤ ((x5) : Int) ∧ ((x5) : Int) ≤ 9223372036854775807) ∧ (((-9223372036854775808) ≤ ((2) : Int) ∧ ((2) : Int) ≤ 9223372036854775807) ∧ R ((x5)) ((2))))))) ∧
          (decide (((f0 x5) : Int) ≤ 100000) = false → (((-9223372036854775808) ≤ ((x5) : Int) ∧ ((x5) : Int) ≤ 9223372036854775807) ∧ (((-9223372036854775808) ≤ ((2) : Int) ∧ ((2) : Int) ≤ 9223372036854775807) ∧ R ((x5)) ((2))))))) ∧
         (decide ((1 : Int) ≤ (f0 x5)) = false → (((-9223372036854775808) ≤ ((x5) : Int) ∧ ((x5) : Int) ≤ 9223372036854775807) ∧ (((-9223372036854775808) ≤ ((2) : Int) ∧ ((2) : Int) ≤ 9223372036854775807) ∧ R ((x5)) ((2)))))))))))) ∧
      (decide ((x3 : Int) ≤ 40) = false → R (0) (8)))) ∧
     (decide ((x2 : Int) ≤ 1000000) = false → R (0) (2)))) ∧
    (decide ((0 : Int) ≤ x2) = false → R (0) (2)))) ∧
   (((v4 : Int) == 0) = false → R (0) (v4))))) :
    ∃ v0 : Int, ∃ v1 : Int, R v0 v1 ∧ Spec Try.prog etalonref08_CheckTrack_s ⟨[x0, x1, x2, x3], [], [f0, f1]⟩ [v0, v1] [] [] :=
  Eq.mp (by kernel_rfl) (exV_of (K := fun d => app3 etalonref08_CheckTrack_s.out R d ∧ Spec Try.prog etalonref08_CheckTrack_s ⟨[x0, x1, x2, x3], [], [f0, f1]⟩ d.1 d.2.1 d.2.2) (tree_at mixed names S1_ok (S := S1 Try.prog) (lf := 100000) (d := 60) etalonref08_CheckTrack_s rt_t { ivs := [(0, (-9223372036854775808), 9223372036854775807), (1, (-9223372036854775808), 9223372036854775807), (2, (-9223372036854775808), 9223372036854775807), (3, 0, 140737488355328)], aivs := [(0, (-9223372036854775808), 9223372036854775807), (1, (-9223372036854775808), 9223372036854775807)] } ⟨[x0, x1, x2, x3], [], [f0, f1]⟩ rfl (by kernel_rfl) (by kernel_rfl) (by kernel_rfl) ⟨(fc r0 (fc r1 (fc r2 (fc r3 fz)))), fz, (fc s0 (fc s1 fz)), fz⟩ (R := fun d => app3 etalonref08_CheckTrack_s.out R d) (Eq.mp (by kernel_rfl) H)))

/-- A reading is right; it is right behind the one before. -/

def okR (f0 f1 : Int → Int) (q : Int) : Prop := (1 ≤ f0 q ∧ f0 q ≤ 100000) ∧ (0 ≤ f1 q ∧ f1 q ≤ 1000000)

def goodR (f0 f1 : Int → Int) (q : Int) : Prop := okR f0 f1 q ∧ (q ≤ 0 ∨ f0 (q - 1) < f0 q)

/-- The error of a track but for its readings. -/

def headErr (x0 x1 x2 x3 : Int) : Int := if re 1 1000000 x0 x1 ≠ 0 then re 1 1000000 x0 x1 else if 0 ≤ x2 ∧ x2 ≤ 1000000 then (if x3 ≤ 40 then 0 else 8) else 2

def loopErr (f0 f1 : Int → Int) (x3 k e : Int) : Prop := (k = 0 ∧ e = 0 ∧ ∀ q, 0 ≤ q → q < x3 → goodR f0 f1 q) ∨ (0 ≤ k ∧ k < x3 ∧ (∀ q, 0 ≤ q → q < k → goodR f0 f1 q) ∧ ((¬ okR f0 f1 k ∧ e = 2) ∨ (okR f0 f1 k ∧ ¬ goodR f0 f1 k ∧ e = 10)))

def trackIs (x0 x1 x2 x3 : Int) (f0 f1 : Int → Int) (k e : Int) : Prop := (headErr x0 x1 x2 x3 ≠ 0 ∧ k = 0 ∧ e = headErr x0 x1 x2 x3) ∨ (headErr x0 x1 x2 x3 = 0 ∧ loopErr f0 f1 x3 k e)

theorem loopErr_uniq {f0 f1 : Int → Int} {x3 k e k' e' : Int} (h : loopErr f0 f1 x3 k e) (h' : loopErr f0 f1 x3 k' e') : k = k' ∧ e = e' := by

  have bad : ∀ {k e : Int}, ((¬ okR f0 f1 k ∧ e = 2) ∨ (okR f0 f1 k ∧ ¬ goodR f0 f1 k ∧ e = 10)) → ¬ goodR f0 f1 k := by

    rintro k e (⟨h, _⟩ | ⟨_, h, _⟩)

    · exact fun g => h g.1

    · exact h

  rcases h with ⟨h1, h2, h3⟩ | ⟨h1, h2, h3, h4⟩ <;> rcases h' with ⟨g1, g2, g3⟩ | ⟨g1, g2, g3, g4⟩

  · exact ⟨by omega, by omega⟩

  · exact absurd (h3 _ g1 g2) (bad g4)

  · exact absurd (g3 _ h1 h2) (bad h4)

  · have hk : k = k' := by

      rcases Int.lt_trichotomy k k' with h | h | h

      · exact absurd (g3 _ h1 h) (bad h4)

      · exact h

      · exact absurd (h3 _ g1 h) (bad g4)

    subst hk

    refine ⟨rfl, ?_⟩

    rcases h4 with ⟨a, b⟩ | ⟨a, b, c⟩ <;> rcases g4 with ⟨a', b'⟩ | ⟨a', b', c'⟩

    · omega

    · exact absurd a' a

    · exact absurd a a'

    · omega

theorem trackIs_uniq {x0 x1 x2 x3 : Int} {f0 f1 : Int → Int} {k e k' e' : Int} (h : trackIs x0 x1 x2 x3 f0 f1 k e) (h' : trackIs x0 x1 x2 x3 f0 f1 k' e') : k = k' ∧ e = e' := by

  rcases h with ⟨h1, h2, h3⟩ | ⟨h1, h2⟩ <;> rcases h' with ⟨g1, g2, g3⟩ | ⟨g1, g2⟩

  · exact ⟨by omega, by omega⟩

  · exact absurd g1 h1

  · exact absurd h1 g1

  · exact loopErr_uniq h2 g2

theorem head0 {x0 x1 x2 x3 : Int} (h1 : re 1 1000000 x0 x1 = 0) (h2 : 0 ≤ x2) (h3 : x2 ≤ 1000000) (h4 : x3 ≤ 40) : headErr x0 x1 x2 x3 = 0 := by

  unfold headErr; rw [if_neg (by simpa using h1), if_pos ⟨h2, h3⟩, if_pos h4]

theorem head1 {x0 x1 x2 x3 : Int} {f0 f1 : Int → Int} (h1 : ¬ re 1 1000000 x0 x1 = 0) : trackIs x0 x1 x2 x3 f0 f1 0 (re 1 1000000 x0 x1) := by

  have : headErr x0 x1 x2 x3 = re 1 1000000 x0 x1 := by unfold headErr; rw [if_pos h1]

  exact .inl ⟨by rw [this]; exact h1, rfl, this.symm⟩

theorem head2 {x0 x1 x2 x3 : Int} {f0 f1 : Int → Int} (h1 : re 1 1000000 x0 x1 = 0) (h2 : ¬ (0 ≤ x2 ∧ x2 ≤ 1000000)) : trackIs x0 x1 x2 x3 f0 f1 0 2 := by

  have : headErr x0 x1 x2 x3 = 2 := by unfold headErr; rw [if_neg (by simpa using h1), if_neg h2]

  exact .inl ⟨by rw [this]; decide, rfl, this.symm⟩

theorem head8 {x0 x1 x2 x3 : Int} {f0 f1 : Int → Int} (h1 : re 1 1000000 x0 x1 = 0) (h2 : 0 ≤ x2) (h3 : x2 ≤ 1000000) (h4 : ¬ x3 ≤ 40) : trackIs x0 x1 x2 x3 f0 f1 0 8 := by

  have : headErr x0 x1 x2 x3 = 8 := by unfold headErr; rw [if_neg (by simpa using h1), if_pos ⟨h2, h3⟩, if_neg h4]

  exact .inl ⟨by rw [this]; decide, rfl, this.symm⟩

theorem isBad {x0 x1 x2 x3 : Int} {f0 f1 : Int → Int} (h0 : headErr x0 x1 x2 x3 = 0) {k : Int} (h1 : 0 ≤ k) (h2 : k < x3) (h3 : ∀ q, 0 ≤ q → q < k → goodR f0 f1 q) (h4 : ¬ okR f0 f1 k) : trackIs x0 x1 x2 x3 f0 f1 k 2 :=

  .inr ⟨h0, .inr ⟨h1, h2, h3, .inl ⟨h4, rfl⟩⟩⟩

theorem isLate {x0 x1 x2 x3 : Int} {f0 f1 : Int → Int} (h0 : headErr x0 x1 x2 x3 = 0) {k : Int} (h1 : 0 ≤ k) (h2 : k < x3) (h3 : ∀ q, 0 ≤ q → q < k → goodR f0 f1 q) (h4 : okR f0 f1 k) (h5 : 0 < k ∧ f0 k ≤ f0 (k - 1)) : trackIs x0 x1 x2 x3 f0 f1 k 10 :=

  .inr ⟨h0, .inr ⟨h1, h2, h3, .inr ⟨h4, (fun g => by rcases g.2 with g | g <;> omega), rfl⟩⟩⟩

theorem isFine {x0 x1 x2 x3 : Int} {f0 f1 : Int → Int} (h0 : headErr x0 x1 x2 x3 = 0) {i : Int} (h : x3 ≤ i) (h3 : ∀ q, 0 ≤ q → q < i → goodR f0 f1 q) : trackIs x0 x1 x2 x3 f0 f1 0 0 :=

  .inr ⟨h0, .inl ⟨rfl, rfl, fun q h1 h2 => h3 q h1 (by omega)⟩⟩

theorem more {f0 f1 : Int → Int} {i : Int} (h3 : ∀ q, 0 ≤ q → q < i → goodR f0 f1 q) (h : goodR f0 f1 i) : ∀ q, 0 ≤ q → q < i + 1 → goodR f0 f1 q := fun q h1 h2 => by

  by_cases e : q = i

  · subst e; exact h

  · exact h3 q h1 (by omega)

theorem checkTrack {x0 x1 x2 x3 : Int} {f0 f1 : Int → Int} (r0 : I64 x0) (r1 : I64 x1) (r2 : I64 x2) (r3 : 0 ≤ x3 ∧ x3 ≤ 140737488355328) (s0 : ∀ q, I64 (f0 q)) (s1 : ∀ q, I64 (f1 q)) :

    ∃ k e : Int, trackIs x0 x1 x2 x3 f0 f1 k e ∧ Spec Try.prog grow_CheckTrack_s ⟨[x0, x1, x2, x3], [], [f0, f1]⟩ [k, e] [] [] := by

  refine ct r0 r1 r2 r3 s0 s1 (R := trackIs x0 x1 x2 x3 f0 f1) ⟨_, checkRate_s r0 r1, ?_⟩

  simp only [beq_iff_eq, beq_eq_false_iff_ne, ne_eq, decide_eq_true_eq, decide_eq_false_iff_not]

  refine ⟨fun h1 => ⟨fun h2 => ⟨fun h3 => ⟨fun h4 => ?_, fun h4 => head8 h1 h2 h3 h4⟩, fun h3 => head2 h1 (fun h => h3 h.2)⟩, fun h2 => head2 h1 (fun h => h2 h.1)⟩, fun h1 => head1 h1⟩

  have h0 := head0 h1 h2 h3 h4

  refine ⟨fun b i => (0 ≤ b ∧ b ≤ 100000) ∧ (0 ≤ i ∧ i ≤ x3) ∧ (∀ q, 0 ≤ q → q < i → goodR f0 f1 q) ∧ ((i = 0 ∧ b = 0) ∨ (0 < i ∧ b = f0 (i - 1))), fun b i => (x3 - i).toNat, ⟨by omega, by omega, fun q h1 h2 => by omega, .inl ⟨rfl, rfl⟩⟩, ?_⟩

  rintro b i ⟨hb, hi, hg, hbi⟩

  refine ⟨hb, by omega, fun h => isFine h0 h hg, fun h => ⟨fun g1 => ⟨fun g2 => ⟨fun g3 => ⟨fun g4 => ⟨fun g5 => ⟨by omega, by omega, ?_⟩, fun g5 => ⟨⟨by omega, by omega, more hg ⟨⟨⟨g1, g2⟩, g3, g4⟩, ?_⟩, .inr ⟨by omega, by rw [Int.add_sub_cancel]⟩⟩, by show (x3 - (i + 1)).toNat < (x3 - i).toNat; omega⟩⟩, fun g4 => ⟨by omega, by omega, isBad h0 (by omega) (by omega) hg fun o => g4 o.2.2⟩⟩, fun g3 => ⟨by omega, by omega, isBad h0 (by omega) (by omega) hg fun o => g3 o.2.1⟩⟩, fun g2 => ⟨by omega, by omega, isBad h0 (by omega) (by omega) hg fun o => g2 o.1.2⟩⟩, fun g1 => ⟨by omega, by omega, isBad h0 (by omega) (by omega) hg fun o => g1 o.1.1⟩⟩⟩

  · refine isLate h0 (by omega) (by omega) hg ⟨⟨g1, g2⟩, g3, g4⟩ ?_

    rcases hbi with ⟨e1, e2⟩ | ⟨e1, e2⟩

    · subst e1; omega

    · exact ⟨e1, by rw [← e2]; exact g5⟩

  · rcases hbi with ⟨e1, e2⟩ | ⟨e1, e2⟩

    · left; omega

    · right; rw [← e2]; omega

theorem rCheckTrack {x0 x1 x2 x3 : Int} {f0 f1 : Int → Int} (r0 : I64 x0) (r1 : I64 x1) (r2 : I64 x2) (r3 : 0 ≤ x3 ∧ x3 ≤ 140737488355328) (s0 : ∀ q, I64 (f0 q)) (s1 : ∀ q, I64 (f1 q)) :

    ∃ k e : Int, trackIs x0 x1 x2 x3 f0 f1 k e ∧ Spec Try.prog etalonref08_CheckTrack_s ⟨[x0, x1, x2, x3], [], [f0, f1]⟩ [k, e] [] [] := by

  refine rt r0 r1 r2 r3 s0 s1 (R := trackIs x0 x1 x2 x3 f0 f1) ⟨_, rRateErr_s r0 r1, ?_⟩

  simp only [beq_iff_eq, beq_eq_false_iff_ne, ne_eq, decide_eq_true_eq, decide_eq_false_iff_not]

  refine ⟨fun h1 => ⟨fun h2 => ⟨fun h3 => ⟨fun h4 => ?_, fun h4 => head8 h1 h2 h3 h4⟩, fun h3 => head2 h1 (fun h => h3 h.2)⟩, fun h2 => head2 h1 (fun h => h2 h.1)⟩, fun h1 => head1 h1⟩

  have h0 := head0 h1 h2 h3 h4

  refine ⟨fun i => (0 ≤ i ∧ i ≤ x3) ∧ (∀ q, 0 ≤ q → q < i → goodR f0 f1 q), fun i => (x3 - i).toNat, ⟨by omega, fun q h1 h2 => by omega⟩, ?_⟩

  rintro i ⟨hi, hg⟩

  refine ⟨by omega, fun h => isFine h0 h hg, fun h => ⟨fun g1 => ⟨fun g2 => ⟨fun g3 => ⟨fun g4 => ⟨fun g5 => ⟨⟨by omega, more hg ⟨⟨⟨g1, g2⟩, g3, g4⟩, .inl g5⟩⟩, by show (x3 - (i + 1)).toNat < (x3 - i).toNat; omega⟩, fun g5 => ⟨fun g6 => by omega, fun g6 => ⟨fun g7 => ⟨by omega, by omega, isLate h0 (by omega) (by omega) hg ⟨⟨g1, g2⟩, g3, g4⟩ ⟨by omega, g7⟩⟩, fun g7 => ⟨⟨by omega, more hg ⟨⟨⟨g1, g2⟩, g3, g4⟩, .inr (by omega)⟩⟩, by show (x3 - (i + 1)).toNat < (x3 - i).toNat; omega⟩⟩⟩⟩, fun g4 => ⟨by omega, by omega, isBad h0 (by omega) (by omega) hg fun o => g4 o.2.2⟩⟩, fun g3 => ⟨by omega, by omega, isBad h0 (by omega) (by omega) hg fun o => g3 o.2.1⟩⟩, fun g2 => ⟨by omega, by omega, isBad h0 (by omega) (by omega) hg fun o => g2 o.1.2⟩⟩, fun g1 => ⟨by omega, by omega, isBad h0 (by omega) (by omega) hg fun o => g1 o.1.1⟩⟩⟩

/-- Both say the same of a track. -/

theorem checkTracks {x0 x1 x2 x3 : Int} {f0 f1 : Int → Int} (r0 : I64 x0) (r1 : I64 x1) (r2 : I64 x2) (r3 : 0 ≤ x3 ∧ x3 ≤ 140737488355328) (s0 : ∀ q, I64 (f0 q)) (s1 : ∀ q, I64 (f1 q)) :

    ∃ k e : Int, trackIs x0 x1 x2 x3 f0 f1 k e ∧ Spec Try.prog grow_CheckTrack_s ⟨[x0, x1, x2, x3], [], [f0, f1]⟩ [k, e] [] [] ∧ Spec Try.prog etalonref08_CheckTrack_s ⟨[x0, x1, x2, x3], [], [f0, f1]⟩ [k, e] [] [] := by

  obtain ⟨k, e, h, hs⟩ := checkTrack r0 r1 r2 r3 s0 s1

  obtain ⟨k', e', h', hs'⟩ := rCheckTrack r0 r1 r2 r3 s0 s1

  obtain ⟨rfl, rfl⟩ := trackIs_uniq h h'

  exact ⟨k, e, h, hs, hs'⟩

end Go.Proofs.Ytikekimiionllaa.Ev
