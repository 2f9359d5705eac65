/- Materials: which are right, of the program and of the reference. -/
import Derived.Test.YtfgdockgdbdoiaaGreatFvw2
import Derived.Test.YtfgdockgdbdoiaaGreatFnm
namespace Go.Proofs.YtfgdockgdbdoiaaGreat.Ev
set_option linter.unusedSimpArgs false
open Go Go.RowKit
set_option linter.unusedVariables false
set_option maxRecDepth 100000
def glass_CheckGlass_s : Sig := ⟨79, ⟨7, 0, 3⟩, ⟨2, 0, 0⟩, [(.agg [(.strn (.var 0)), (.int .i64 (.var 1)), (.asl 0 (.var 2)), (.asl 1 (.var 3)), (.asl 2 (.var 4)), (.int .i64 (.var 5)), (.int .i64 (.var 6))])], [(some ⟨[], 3, true, false, (some ⟨(.var 2), [(.int .i64)], [(.avar 0)]⟩)⟩), (some ⟨[], 98, true, false, (some ⟨(.var 3), [(.float .f32)], [(.avar 1)]⟩)⟩), (some ⟨[], 98, true, false, (some ⟨(.var 4), [(.float .f32)], [(.avar 2)]⟩)⟩)], (.tuple [(.int .i64 (.var 7)), (.int .i64 (.var 8))]), []⟩
def etalonref02_CheckGlass_s : Sig := ⟨13, ⟨7, 0, 3⟩, ⟨2, 0, 0⟩, [(.agg [(.strn (.var 0)), (.int .i64 (.var 1)), (.asl 0 (.var 2)), (.asl 1 (.var 3)), (.asl 2 (.var 4)), (.int .i64 (.var 5)), (.int .i64 (.var 6))])], [(some ⟨[], 3, true, false, (some ⟨(.var 2), [(.int .i64)], [(.avar 0)]⟩)⟩), (some ⟨[], 98, true, false, (some ⟨(.var 3), [(.float .f32)], [(.avar 1)]⟩)⟩), (some ⟨[], 98, true, false, (some ⟨(.var 4), [(.float .f32)], [(.avar 2)]⟩)⟩)], (.tuple [(.int .i64 (.var 7)), (.int .i64 (.var 8))]), []⟩

def cg_t : Tr :=
  (.call text_IsName_s ⟨[(.var 0)], [], []⟩ ⟨[(.var 0)], [(.var 0)], []⟩ ⟨91, [(.strn (.var 0))], [], [none, none, none, none], (.bool (.var 0)), []⟩
  (.ite (.var 0)
  (.ite (.icmp .eql (.var 1) (.lit 1))
   (.ite (.icmp .eql (.var 5) (.lit 0))
    (.ite (.icmp .eql (.var 6) (.lit 0))
     (.ite (.icmp .eql (.var 2) (.lit 0))
      (.ret ⟨[(.lit 0), (.lit 12)], [], []⟩ [])
      (.ite (.icmp .eql (.var 3) (.var 2))
       (.ite (.icmp .eql (.var 4) (.var 2))
        (.ite (.icmp .leq (.var 2) (.lit 64))
         (.loop ⟨142, [0, 1, 0, 1, 1, 1, 1, 1], [(.agg [(.strn (.var 0)), (.int .i64 (.var 1)), (.asl 0 (.var 2)), (.asl 1 (.var 3)), (.asl 2 (.var 4)), (.int .i64 (.var 5)), (.int .i64 (.var 6))]), (.ptr (some ⟨4, 0, none⟩)), (.int .i64 (.lit 0)), (.int .i64 (.lit 0)), (.int .i64 (.var 2)), (.tuple []), (.tuple []), (.ptr (some ⟨4, 0, none⟩)), (.ptr (some ⟨4, 5, none⟩)), (.agg [(.int .i64 (.var 5)), (.int .i64 (.var 6))]), (.agg [(.int .i64 (.lit 0)), (.int .i64 (.lit 0))]), (.bool (.not (.and (.icmp .eql (.var 5) (.lit 0)) (.icmp .eql (.var 6) (.lit 0))))), (.ptr (some ⟨4, 0, none⟩)), (.ptr (some ⟨4, 2, none⟩)), (.asl 0 (.var 2)), (.int .i64 (.var 2)), (.int .i64 (.var 2)), (.bool (.icmp .eql (.var 2) (.lit 0))), (.bool (.icmp .eql (.var 2) (.lit 0))), (.ptr (some ⟨4, 0, none⟩)), (.ptr (some ⟨4, 3, none⟩)), (.asl 1 (.var 3)), (.int .i64 (.var 3)), (.int .i64 (.var 2)), (.bool (.icmp .neq (.var 3) (.var 2))), (.bool (.icmp .neq (.var 3) (.var 2))), (.bool (.icmp .neq (.var 3) (.var 2))), (.ptr (some ⟨4, 0, none⟩)), (.ptr (some ⟨4, 4, none⟩)), (.asl 2 (.var 4)), (.int .i64 (.var 4)), (.int .i64 (.var 2)), (.bool (.icmp .neq (.var 4) (.var 2))), (.bool (.icmp .neq (.var 4) (.var 2))), (.int .i64 (.var 2)), (.bool (.icmp .gtr (.var 2) (.lit 64))), (.int .i64 (.var 2)), (.int .i64 (.lit 0)), (.tuple []), (.tuple []), (.tuple []), (.tuple []), (.tuple []), (.tuple []), (.tuple []), (.tuple []), (.tuple []), (.tuple [])], [(some ⟨[], 3, true, false, (some ⟨(.var 2), [(.int .i64)], [(.avar 0)]⟩)⟩), (some ⟨[], 98, true, false, (some ⟨(.var 3), [(.float .f32)], [(.avar 1)]⟩)⟩), (some ⟨[], 98, true, false, (some ⟨(.var 4), [(.float .f32)], [(.avar 2)]⟩)⟩), (some ⟨[(.strn (.var 0)), (.int .i64 (.var 1)), (.asl 0 (.var 2)), (.asl 1 (.var 3)), (.asl 2 (.var 4)), (.int .i64 (.var 5)), (.int .i64 (.var 6))], 26, false, false, none⟩), (some ⟨[(.strn (.var 0)), (.int .i64 (.var 1)), (.asl 0 (.var 2)), (.asl 1 (.var 3)), (.asl 2 (.var 4)), (.int .i64 (.var 5)), (.int .i64 (.var 6))], 145, false, false, none⟩)], [], [(.agg [(.strn (.var 0)), (.int .i64 (.var 1)), (.asl 0 (.var 2)), (.asl 1 (.var 3)), (.asl 2 (.var 4)), (.int .i64 (.var 5)), (.int .i64 (.var 6))]), (.ptr (some ⟨4, 0, none⟩)), (.int .i64 (.lit 0)), (.int .i64 (.lit 0)), (.int .i64 (.var 2)), (.any 5), (.any 6), (.ptr (some ⟨4, 0, none⟩)), (.ptr (some ⟨4, 5, none⟩)), (.agg [(.int .i64 (.var 5)), (.int .i64 (.var 6))]), (.agg [(.int .i64 (.lit 0)), (.int .i64 (.lit 0))]), (.bool (.not (.and (.icmp .eql (.var 5) (.lit 0)) (.icmp .eql (.var 6) (.lit 0))))), (.ptr (some ⟨4, 0, none⟩)), (.ptr (some ⟨4, 2, none⟩)), (.asl 0 (.var 2)), (.int .i64 (.var 2)), (.int .i64 (.var 2)), (.bool (.icmp .eql (.var 2) (.lit 0))), (.bool (.icmp .eql (.var 2) (.lit 0))), (.ptr (some ⟨4, 0, none⟩)), (.ptr (some ⟨4, 3, none⟩)), (.asl 1 (.var 3)), (.int .i64 (.var 3)), (.int .i64 (.var 2)), (.bool (.icmp .neq (.var 3) (.var 2))), (.bool (.icmp .neq (.var 3) (.var 2))), (.bool (.icmp .neq (.var 3) (.var 2))), (.ptr (some ⟨4, 0, none⟩)), (.ptr (some ⟨4, 4, none⟩)), (.asl 2 (.var 4)), (.int .i64 (.var 4)), (.int .i64 (.var 2)), (.bool (.icmp .neq (.var 4) (.var 2))), (.bool (.icmp .neq (.var 4) (.var 2))), (.int .i64 (.var 2)), (.bool (.icmp .gtr (.var 2) (.lit 64))), (.int .i64 (.var 2)), (.int .i64 (.var 7)), (.any 38), (.any 39), (.any 40), (.any 41), (.any 42), (.any 43), (.any 44), (.tuple []), (.tuple []), (.any 47)], [(some ⟨[], 3, true, false, (some ⟨(.var 2), [(.int .i64)], [(.avar 0)]⟩)⟩), (some ⟨[], 98, true, false, (some ⟨(.var 3), [(.float .f32)], [(.avar 1)]⟩)⟩), (some ⟨[], 98, true, false, (some ⟨(.var 4), [(.float .f32)], [(.avar 2)]⟩)⟩), (some ⟨[(.strn (.var 0)), (.int .i64 (.var 1)), (.asl 0 (.var 2)), (.asl 1 (.var 3)), (.asl 2 (.var 4)), (.int .i64 (.var 5)), (.int .i64 (.var 6))], 26, false, false, none⟩), (some ⟨[(.strn (.var 0)), (.int .i64 (.var 1)), (.asl 0 (.var 2)), (.asl 1 (.var 3)), (.asl 2 (.var 4)), (.int .i64 (.var 5)), (.int .i64 (.var 6))], 145, false, false, none⟩)], [], ⟨1, 0, 0⟩, ⟨[(.lit 0)], [], []⟩, []⟩
          (.rng 7 (-1) 64 (.ite (.icmp .leq (.var 2) (.var 7))
           (.out 1 ⟨[], [], []⟩ [])
           (.ite (.icmp .leq (.lit 0) (.var 7))
            (.ite (.icmp .leq (.var 3) (.var 7))
             .nil
             (.ite (.icmp .leq (.var 4) (.var 7))
              .nil
              (.ite (.icmp .leq (.lit 1000) (.sel (.avar 0) (.var 7)))
               (.ite (.icmp .leq (.sel (.avar 0) (.var 7)) (.lit 200000))
                (.ite (.fcmp .f32 .neq (.sel (.avar 1) (.var 7)) (.sel (.avar 1) (.var 7)))
                 (.out 0 ⟨[(.var 7), (.lit 27)], [], []⟩ [])
                 (.call whole_IsWhole_s ⟨[(.bin .cvF (.sel (.avar 1) (.var 7)) (.lit 0))], [], []⟩ ⟨[(.bin .cvF (.sel (.avar 1) (.var 7)) (.lit 0))], [(.var 1)], []⟩ ⟨103, [(.float .f64 (.bin .cvF (.sel (.avar 1) (.var 7)) (.lit 0)))], [], [none, none, none, none, none, none], (.bool (.var 1)), []⟩
                  (.ite (.var 1)
                  (.ite (.fcmp .f32 .neq (.sel (.avar 2) (.var 7)) (.sel (.avar 2) (.var 7)))
                   (.out 0 ⟨[(.var 7), (.lit 27)], [], []⟩ [])
                   (.call whole_IsWhole_s ⟨[(.bin .cvF (.sel (.avar 2) (.var 7)) (.lit 0))], [], []⟩ ⟨[(.bin .cvF (.sel (.avar 2) (.var 7)) (.lit 0))], [(.var 2)], []⟩ ⟨103, [(.float .f64 (.bin .cvF (.sel (.avar 2) (.var 7)) (.lit 0)))], [], [none, none, none, none, none, none], (.bool (.var 2)), []⟩
                    (.ite (.var 2)
                    (.ite (.fcmp .f32 .lss (.sel (.avar 1) (.var 7)) (.lit 1167867904))
                     (.out 0 ⟨[(.var 7), (.lit 2)], [], []⟩ [])
                     (.ite (.fcmp .f32 .gtr (.sel (.avar 1) (.var 7)) (.lit 1201422336))
                      (.out 0 ⟨[(.var 7), (.lit 2)], [], []⟩ [])
                      (.ite (.fcmp .f32 .lss (.sel (.avar 2) (.var 7)) (.lit 0))
                       (.out 0 ⟨[(.var 7), (.lit 2)], [], []⟩ [])
                       (.ite (.fcmp .f32 .gtr (.sel (.avar 2) (.var 7)) (.lit 1201422336))
                        (.out 0 ⟨[(.var 7), (.lit 2)], [], []⟩ [])
                        (.ite (.icmp .leq (.var 7) (.lit 0))
                         (.next ⟨[(.bin .addI (.var 7) (.lit 1))], [], []⟩ [])
                         (.ite (.icmp .leq (.var 2) (.bin .subI (.var 7) (.lit 1)))
                          .nil
                          (.ite (.icmp .leq (.sel (.avar 0) (.var 7)) (.sel (.avar 0) (.bin .subI (.var 7) (.lit 1))))
                           (.out 0 ⟨[(.var 7), (.lit 10)], [], []⟩ [])
                           (.next ⟨[(.bin .addI (.var 7) (.lit 1))], [], []⟩ []))))))))
                    (.out 0 ⟨[(.var 7), (.lit 27)], [], []⟩ []))))
                  (.out 0 ⟨[(.var 7), (.lit 27)], [], []⟩ []))))
                (.out 0 ⟨[(.var 7), (.lit 2)], [], []⟩ []))
               (.out 0 ⟨[(.var 7), (.lit 2)], [], []⟩ []))))
            .nil)))
          (.ex (.ret, [(.agg [(.strn (.var 0)), (.int .i64 (.var 1)), (.asl 0 (.var 2)), (.asl 1 (.var 3)), (.asl 2 (.var 4)), (.int .i64 (.var 5)), (.int .i64 (.var 6))]), (.ptr (some ⟨4, 0, none⟩)), (.int .i64 (.var 7)), (.int .i64 (.var 8)), (.int .i64 (.var 2)), (.any 5), (.any 6), (.ptr (some ⟨4, 0, none⟩)), (.ptr (some ⟨4, 5, none⟩)), (.agg [(.int .i64 (.var 5)), (.int .i64 (.var 6))]), (.agg [(.int .i64 (.lit 0)), (.int .i64 (.lit 0))]), (.bool (.not (.and (.icmp .eql (.var 5) (.lit 0)) (.icmp .eql (.var 6) (.lit 0))))), (.ptr (some ⟨4, 0, none⟩)), (.ptr (some ⟨4, 2, none⟩)), (.asl 0 (.var 2)), (.int .i64 (.var 2)), (.int .i64 (.var 2)), (.bool (.icmp .eql (.var 2) (.lit 0))), (.bool (.icmp .eql (.var 2) (.lit 0))), (.ptr (some ⟨4, 0, none⟩)), (.ptr (some ⟨4, 3, none⟩)), (.asl 1 (.var 3)), (.int .i64 (.var 3)), (.int .i64 (.var 2)), (.bool (.icmp .neq (.var 3) (.var 2))), (.bool (.icmp .neq (.var 3) (.var 2))), (.bool (.icmp .neq (.var 3) (.var 2))), (.ptr (some ⟨4, 0, none⟩)), (.ptr (some ⟨4, 4, none⟩)), (.asl 2 (.var 4)), (.int .i64 (.var 4)), (.int .i64 (.var 2)), (.bool (.icmp .neq (.var 4) (.var 2))), (.bool (.icmp .neq (.var 4) (.var 2))), (.int .i64 (.var 2)), (.bool (.icmp .gtr (.var 2) (.lit 64))), (.int .i64 (.var 2)), (.any 37), (.any 38), (.any 39), (.any 40), (.any 41), (.any 42), (.any 43), (.any 44), (.any 45), (.any 46), (.any 47)], [(some ⟨[], 3, true, false, (some ⟨(.var 2), [(.int .i64)], [(.avar 0)]⟩)⟩), (some ⟨[], 98, true, false, (some ⟨(.var 3), [(.float .f32)], [(.avar 1)]⟩)⟩), (some ⟨[], 98, true, false, (some ⟨(.var 4), [(.float .f32)], [(.avar 2)]⟩)⟩), (some ⟨[(.strn (.var 0)), (.int .i64 (.var 1)), (.asl 0 (.var 2)), (.asl 1 (.var 3)), (.asl 2 (.var 4)), (.int .i64 (.var 5)), (.int .i64 (.var 6))], 26, false, false, none⟩), (some ⟨[(.strn (.var 0)), (.int .i64 (.var 1)), (.asl 0 (.var 2)), (.asl 1 (.var 3)), (.asl 2 (.var 4)), (.int .i64 (.var 5)), (.int .i64 (.var 6))], 145, false, false, none⟩)], []) ⟨2, 0, 0⟩
          (.rng 7 (-9223372036854775808) 9223372036854775807 (.rng 8 (-9223372036854775808) 9223372036854775807 (.ret ⟨[(.var 7), (.var 8)], [], []⟩ [])))
          (.ex ((.exit 0), [(.agg [(.strn (.var 0)), (.int .i64 (.var 1)), (.asl 0 (.var 2)), (.asl 1 (.var 3)), (.asl 2 (.var 4)), (.int .i64 (.var 5)), (.int .i64 (.var 6))]), (.ptr (some ⟨4, 0, none⟩)), (.int .i64 (.lit 0)), (.int .i64 (.lit 0)), (.int .i64 (.var 2)), (.any 5), (.any 6), (.ptr (some ⟨4, 0, none⟩)), (.ptr (some ⟨4, 5, none⟩)), (.agg [(.int .i64 (.var 5)), (.int .i64 (.var 6))]), (.agg [(.int .i64 (.lit 0)), (.int .i64 (.lit 0))]), (.bool (.not (.and (.icmp .eql (.var 5) (.lit 0)) (.icmp .eql (.var 6) (.lit 0))))), (.ptr (some ⟨4, 0, none⟩)), (.ptr (some ⟨4, 2, none⟩)), (.asl 0 (.var 2)), (.int .i64 (.var 2)), (.int .i64 (.var 2)), (.bool (.icmp .eql (.var 2) (.lit 0))), (.bool (.icmp .eql (.var 2) (.lit 0))), (.ptr (some ⟨4, 0, none⟩)), (.ptr (some ⟨4, 3, none⟩)), (.asl 1 (.var 3)), (.int .i64 (.var 3)), (.int .i64 (.var 2)), (.bool (.icmp .neq (.var 3) (.var 2))), (.bool (.icmp .neq (.var 3) (.var 2))), (.bool (.icmp .neq (.var 3) (.var 2))), (.ptr (some ⟨4, 0, none⟩)), (.ptr (some ⟨4, 4, none⟩)), (.asl 2 (.var 4)), (.int .i64 (.var 4)), (.int .i64 (.var 2)), (.bool (.icmp .neq (.var 4) (.var 2))), (.bool (.icmp .neq (.var 4) (.var 2))), (.int .i64 (.var 2)), (.bool (.icmp .gtr (.var 2) (.lit 64))), (.int .i64 (.var 2)), (.any 37), (.any 38), (.any 39), (.any 40), (.any 41), (.any 42), (.any 43), (.any 44), (.tuple []), (.tuple []), (.any 47)], [(some ⟨[], 3, true, false, (some ⟨(.var 2), [(.int .i64)], [(.avar 0)]⟩)⟩), (some ⟨[], 98, true, false, (some ⟨(.var 3), [(.float .f32)], [(.avar 1)]⟩)⟩), (some ⟨[], 98, true, false, (some ⟨(.var 4), [(.float .f32)], [(.avar 2)]⟩)⟩), (some ⟨[(.strn (.var 0)), (.int .i64 (.var 1)), (.asl 0 (.var 2)), (.asl 1 (.var 3)), (.asl 2 (.var 4)), (.int .i64 (.var 5)), (.int .i64 (.var 6))], 26, false, false, none⟩), (some ⟨[(.strn (.var 0)), (.int .i64 (.var 1)), (.asl 0 (.var 2)), (.asl 1 (.var 3)), (.asl 2 (.var 4)), (.int .i64 (.var 5)), (.int .i64 (.var 6))], 145, false, false, none⟩)], []) ⟨0, 0, 0⟩
          (.ret ⟨[(.lit 0), (.lit 0)], [], []⟩ [])
          .nil)))
         (.ret ⟨[(.lit 0), (.lit 8)], [], []⟩ []))
        (.ret ⟨[(.lit 0), (.lit 12)], [], []⟩ []))
       (.ret ⟨[(.lit 0), (.lit 12)], [], []⟩ [])))
     (.ret ⟨[(.lit 0), (.lit 13)], [], []⟩ []))
    (.ret ⟨[(.lit 0), (.lit 13)], [], []⟩ []))
   (.ite (.icmp .eql (.var 1) (.lit 2))
    (.ite (.icmp .leq (.var 2) (.lit 0))
     (.ite (.icmp .leq (.var 3) (.lit 0))
      (.ite (.icmp .leq (.var 4) (.lit 0))
       (.ite (.icmp .leq (.lit 5000) (.var 5))
        (.ite (.icmp .leq (.var 5) (.lit 60000))
         (.ite (.icmp .leq (.lit 0) (.var 6))
          (.ite (.icmp .leq (.var 6) (.lit 20000))
           (.ret ⟨[(.lit 0), (.lit 0)], [], []⟩ [])
           (.ret ⟨[(.lit 0), (.lit 2)], [], []⟩ []))
          (.ret ⟨[(.lit 0), (.lit 2)], [], []⟩ []))
         (.ret ⟨[(.lit 0), (.lit 2)], [], []⟩ []))
        (.ret ⟨[(.lit 0), (.lit 2)], [], []⟩ []))
       (.ret ⟨[(.lit 0), (.lit 13)], [], []⟩ []))
      (.ret ⟨[(.lit 0), (.lit 13)], [], []⟩ []))
     (.ret ⟨[(.lit 0), (.lit 13)], [], []⟩ []))
    (.ret ⟨[(.lit 0), (.lit 11)], [], []⟩ [])))
  (.ret ⟨[(.lit 0), (.lit 3)], [], []⟩ [])))
theorem cg {x0 x1 x2 x3 x4 x5 x6 : Int} {f0 f1 f2 : Int → Int} (r1 : (-9223372036854775808) ≤ x1 ∧ x1 ≤ 9223372036854775807) (r2 : 0 ≤ x2 ∧ x2 ≤ 140737488355328) (r3 : 0 ≤ x3 ∧ x3 ≤ 140737488355328) (r4 : 0 ≤ x4 ∧ x4 ≤ 140737488355328) (r5 : (-9223372036854775808) ≤ x5 ∧ x5 ≤ 9223372036854775807) (r6 : (-9223372036854775808) ≤ x6 ∧ x6 ≤ 9223372036854775807) (s0 : ∀ q, (-9223372036854775808) ≤ f0 q ∧ f0 q ≤ 9223372036854775807) {R : Int → Int → Prop}
  (H : (∃ u0 : Bool, Spec Tryz.prog text_IsName_s ⟨[x0], [], []⟩ [] [u0] [] ∧
   ((u0 = true → ((((x1 : Int) == 1) = true → ((((x5 : Int) == 0) = true → ((((x6 : Int) == 0) = true → ((((x2 : Int) == 0) = true → R (0) (12)) ∧
       (((x2 : Int) == 0) = false → ((((x3 : Int) == x2) = true → ((((x4 : Int) == x2) = true → ((decide ((x2 : Int) ≤ 64) = true → (∃ (I7 : Int → Prop) (rk7 : Int → Nat), I7 (0) ∧
           (∀ x7 : Int, I7 x7 → (((-1) ≤ (x7 : Int) ∧ (x7 : Int) ≤ 64) ∧ ((decide ((x2 : Int) ≤ x7) = true → R (0) (0)) ∧
            (decide ((x2 : Int) ≤ x7) = false → ((decide ((0 : Int) ≤ x7) = true → ((decide ((x3 : Int) ≤ x7) = true → False) ∧
              (decide ((x3 : Int) ≤ x7) = false → ((decide ((x4 : Int) ≤ x7) = true → False) ∧
               (decide ((x4 : Int) ≤ x7) = false → ((decide ((1000 : Int) ≤ (f0 x7)) = true → ((decide (((f0 x7) : Int) ≤ 200000) = true → ((COp.flo .f32 .neq ((f1 x7) : Int).toNat ((f1 x7) : Int).toNat = true → (((-9223372036854775808) ≤ ((x7) : Int) ∧ ((x7) : Int) ≤ 9223372036854775807) ∧ (((-9223372036854775808) ≤ ((27) : Int) ∧ ((27) : Int) ≤ 9223372036854775807) ∧ R ((x7)) ((27))))) ∧
                  (COp.flo .f32 .neq ((f1 x7) : Int).toNat ((f1 x7) : Int).toNat = false → (∃ u1 : Bool, Spec Tryz.prog whole_IsWhole_s ⟨[(NOp.den .cvF (f1 x7) 0)], [], []⟩ [] [u1] [] ∧
                   ((u1 = true → ((COp.flo .f32 .neq ((f2 x7) : Int).toNat ((f2 x7) : Int).toNat = true → (((-9223372036854775808) ≤ ((x7) : Int) ∧ ((x7) : Int) ≤ 9223372036854775807) ∧ (((-9223372036854775808) ≤ ((27) : Int) ∧ ((27) : Int) ≤ 9223372036854775807) ∧ R ((x7)) ((27))))) ∧
                    (COp.flo .f32 .neq ((f2 x7) : Int).toNat ((f2 x7) : Int).toNat = false → (∃ u2 : Bool, Spec Tryz.prog whole_IsWhole_s ⟨[(NOp.den .cvF (f2 x7) 0)], [], []⟩ [] [u2] [] ∧
                     ((u2 = true → ((COp.flo .f32 .lss ((f1 x7) : Int).toNat (1167867904 : Int).toNat = true → (((-9223372036854775808) ≤ ((x7) : Int) ∧ ((x7) : Int) ≤ 9223372036854775807) ∧ (((-9223372036854775808) ≤ ((2) : Int) ∧ ((2) : Int) ≤ 9223372036854775807) ∧ R ((x7)) ((2))))) ∧
                      (COp.flo .f32 .lss ((f1 x7) : Int).toNat (1167867904 : Int).toNat = false → ((COp.flo .f32 .gtr ((f1 x7) : Int).toNat (1201422336 : Int).toNat = true → (((-9223372036854775808) ≤ ((x7) : Int) ∧ ((x7) : Int) ≤ 9223372036854775807) ∧ (((-9223372036854775808) ≤ ((2) : Int) ∧ ((2) : Int) ≤ 9223372036854775807) ∧ R ((x7)) ((2))))) ∧
                       (COp.flo .f32 .gtr ((f1 x7) : Int).toNat (1201422336 : Int).toNat = false → ((COp.flo .f32 .lss ((f2 x7) : Int).toNat (0 : Int).toNat = true → (((-9223372036854775808) ≤ ((x7) : Int) ∧ ((x7) : Int) ≤ 9223372036854775807) ∧ (((-9223372036854775808) ≤ ((2) : Int) ∧ ((2) : Int) ≤ 9223372036854775807) ∧ R ((x7)) ((2))))) ∧
                        (COp.flo .f32 .lss ((f2 x7) : Int).toNat (0 : Int).toNat = false → ((COp.flo .f32 .gtr ((f2 x7) : Int).toNat (1201422336 : Int).toNat = true → (((-9223372036854775808) ≤ ((x7) : Int) ∧ ((x7) : Int) ≤ 9223372036854775807) ∧ (((-9223372036854775808) ≤ ((2) : Int) ∧ ((2) : Int) ≤ 9223372036854775807) ∧ R ((x7)) ((2))))) ∧
                         (COp.flo .f32 .gtr ((f2 x7) : Int).toNat (1201422336 : Int).toNat = false → ((decide ((x7 : Int) ≤ 0) = true → (I7 ((x7 + 1)) ∧ rk7 ((x7 + 1)) < rk7 x7)) ∧
                          (decide ((x7 : Int) ≤ 0) = false → ((decide ((x2 : Int) ≤ (x7 - 1)) = true → False) ∧
                           (decide ((x2 : Int) ≤ (x7 - 1)) = false → ((decide (((f0 x7) : Int) ≤ (f0 (x7 - 1))) = true → (((-9223372036854775808) ≤ ((x7) : Int) ∧ ((x7) : Int) ≤ 9223372036854775807) ∧ (((-9223372036854775808) ≤ ((10) : Int) ∧ ((10) : Int) ≤ 9223372036854775807) ∧ R ((x7)) ((10))))) ∧
                            (decide (((f0 x7) : Int) ≤ (f0 (x7 - 1))) = false → (I7 ((x7 + 1)) ∧ rk7 ((x7 + 1)) < rk7 x7)))))))))))))))) ∧
                     (u2 = false → (((-9223372036854775808) ≤ ((x7) : Int) ∧ ((x7) : Int) ≤ 9223372036854775807) ∧ (((-9223372036854775808) ≤ ((27) : Int) ∧ ((27) : Int) ≤ 9223372036854775807) ∧ R ((x7)) ((27)))))))))) ∧
                   (u1 = false → (((-9223372036854775808) ≤ ((x7) : Int) ∧ ((x7) : Int) ≤ 9223372036854775807) ∧ (((-9223372036854775808) ≤ ((27) : Int) ∧ ((27) : Int) ≤ 9223372036854775807) ∧ R ((x7)) ((27)))))))))) ∧
                 (decide (((f0 x7) : Int) ≤ 200000) = false → (((-9223372036854775808) ≤ ((x7) : Int) ∧ ((x7) : Int) ≤ 9223372036854775807) ∧ (((-9223372036854775808) ≤ ((2) : Int) ∧ ((2) : Int) ≤ 9223372036854775807) ∧ R ((x7)) ((2))))))) ∧
                (decide ((1000 : Int) ≤ (f0 x7)) = false → (((-9223372036854775808) ≤ ((x7) : Int) ∧ ((x7) : Int) ≤ 9223372036854775807) ∧ (((-9223372036854775808) ≤ ((2) : Int) ∧ ((2) : Int) ≤ 9223372036854775807) ∧ R ((x7)) ((2))))))))))) ∧
             (decide ((0 : Int) ≤ x7) = false → False)))))))) ∧
          (decide ((x2 : Int) ≤ 64) = false → R (0) (8)))) ∧
         (((x4 : Int) == x2) = false → R (0) (12)))) ∧
        (((x3 : Int) == x2) = false → R (0) (12)))))) ∧
      (((x6 : Int) == 0) = false → R (0) (13)))) ∧
     (((x5 : Int) == 0) = false → R (0) (13)))) ∧
    (((x1 : Int) == 1) = false → ((((x1 : Int) == 2) = true → ((decide ((x2 : Int) ≤ 0) = true → ((decide ((x3 : Int) ≤ 0) = true → ((decide ((x4 : Int) ≤ 0) = true → ((decide ((5000 : Int) ≤ x5) = true → ((decide ((x5 : Int) ≤ 60000) = true → ((decide ((0 : Int) ≤ x6) = true → ((decide ((x6 : Int) ≤ 20000) = true → R (0) (0)) ∧
            (decide ((x6 : Int) ≤ 20000) = false → R (0) (2)))) ∧
           (decide ((0 : Int) ≤ x6) = false → R (0) (2)))) ∧
          (decide ((x5 : Int) ≤ 60000) = false → R (0) (2)))) ∧
         (decide ((5000 : Int) ≤ x5) = false → R (0) (2)))) ∧
        (decide ((x4 : Int) ≤ 0) = false → R (0) (13)))) ∧
       (decide ((x3 : Int) ≤ 0) = false → R (0) (13)))) ∧
      (decide ((x2 : Int) ≤ 0) = false → R (0) (13)))) ∧
     (((x1 : Int) == 2) = false → R (0) (11)))))) ∧
   (u0 = false → R (0) (3))))) :
    ∃ v0 : Int, ∃ v1 : Int, R v0 v1 ∧ Spec Tryz.prog glass_CheckGlass_s ⟨[x0, x1, x2, x3, x4, x5, x6], [], [f0, f1, f2]⟩ [v0, v1] [] [] :=
  Eq.mp (by kernel_rfl) (exV_of (K := fun d => app3 glass_CheckGlass_s.out R d ∧ Spec Tryz.prog glass_CheckGlass_s ⟨[x0, x1, x2, x3, x4, x5, x6], [], [f0, f1, f2]⟩ d.1 d.2.1 d.2.2) (tree_at mixed names S2_ok (S := S2 Tryz.prog) (lf := 100000) (d := 60) glass_CheckGlass_s cg_t { ivs := [(1, (-9223372036854775808), 9223372036854775807), (2, 0, 140737488355328), (3, 0, 140737488355328), (4, 0, 140737488355328), (5, (-9223372036854775808), 9223372036854775807), (6, (-9223372036854775808), 9223372036854775807)], aivs := [(0, (-9223372036854775808), 9223372036854775807)] } ⟨[x0, x1, x2, x3, x4, x5, x6], [], [f0, f1, f2]⟩ rfl (by kernel_rfl) (by kernel_rfl) (by kernel_rfl) ⟨(fc r1 (fc r2 (fc r3 (fc r4 (fc r5 (fc r6 fz)))))), fz, (fc s0 fz), fz⟩ (R := fun d => app3 glass_CheckGlass_s.out R d) (Eq.mp (by kernel_rfl) H)))

def rcg_t : Tr :=
  (.call etalonbase_IsName_s ⟨[(.var 0)], [], []⟩ ⟨[(.var 0)], [(.var 0)], []⟩ ⟨38, [(.strn (.var 0))], [], [none, none, none, none], (.bool (.var 0)), []⟩
  (.ite (.var 0)
  (.ite (.icmp .eql (.var 1) (.lit 1))
   (.ite (.icmp .eql (.var 5) (.lit 0))
    (.ite (.icmp .eql (.var 6) (.lit 0))
     (.ite (.icmp .eql (.var 2) (.lit 0))
      (.ret ⟨[(.lit 0), (.lit 12)], [], []⟩ [])
      (.ite (.icmp .eql (.var 3) (.var 2))
       (.ite (.icmp .eql (.var 4) (.var 2))
        (.ite (.icmp .leq (.var 2) (.lit 64))
         (.loop ⟨13, [0, 1, 0, 1, 1, 1, 1, 1, 1, 1, 1], [(.agg [(.strn (.var 0)), (.int .i64 (.var 1)), (.asl 0 (.var 2)), (.asl 1 (.var 3)), (.asl 2 (.var 4)), (.int .i64 (.var 5)), (.int .i64 (.var 6))]), (.ptr (some ⟨3, 0, none⟩)), (.int .i64 (.lit 0)), (.int .i64 (.lit 0)), (.int .i64 (.var 2)), (.int .i64 (.lit 0)), (.ptr (some ⟨3, 0, none⟩)), (.strn (.var 0)), (.bool (.var 0)), (.bool (.not (.var 0))), (.ptr (some ⟨3, 1, none⟩)), (.int .i64 (.var 1)), (.bool (.icmp .neq (.var 1) (.lit 1))), (.bool (.icmp .neq (.var 1) (.lit 1))), (.tuple []), (.tuple []), (.tuple []), (.bool (.lit false)), (.ptr (some ⟨3, 2, none⟩)), (.asl 0 (.var 2)), (.int .i64 (.var 2)), (.ptr (some ⟨3, 1, none⟩)), (.int .i64 (.var 1)), (.bool (.icmp .eql (.var 1) (.lit 2))), (.tuple []), (.tuple []), (.tuple []), (.tuple []), (.tuple []), (.tuple []), (.tuple []), (.tuple []), (.tuple []), (.tuple []), (.tuple []), (.tuple []), (.tuple []), (.tuple []), (.tuple []), (.tuple []), (.tuple []), (.tuple []), (.tuple []), (.tuple []), (.tuple []), (.tuple []), (.ptr (some ⟨3, 5, none⟩)), (.agg [(.int .i64 (.var 5)), (.int .i64 (.var 6))]), (.agg [(.int .i64 (.lit 0)), (.int .i64 (.lit 0))]), (.bool (.not (.and (.icmp .eql (.var 5) (.lit 0)) (.icmp .eql (.var 6) (.lit 0))))), (.int .i64 (.var 2)), (.bool (.icmp .eql (.var 2) (.lit 0))), (.bool (.icmp .eql (.var 2) (.lit 0))), (.ptr (some ⟨3, 3, none⟩)), (.asl 1 (.var 3)), (.int .i64 (.var 3)), (.int .i64 (.var 2)), (.bool (.icmp .neq (.var 3) (.var 2))), (.bool (.icmp .neq (.var 3) (.var 2))), (.bool (.icmp .neq (.var 3) (.var 2))), (.ptr (some ⟨3, 4, none⟩)), (.asl 2 (.var 4)), (.int .i64 (.var 4)), (.int .i64 (.var 2)), (.bool (.icmp .neq (.var 4) (.var 2))), (.bool (.icmp .neq (.var 4) (.var 2))), (.int .i64 (.var 2)), (.bool (.icmp .gtr (.var 2) (.lit 64))), (.tuple []), (.tuple []), (.tuple []), (.tuple []), (.tuple []), (.tuple []), (.tuple []), (.tuple []), (.tuple []), (.tuple []), (.tuple []), (.tuple []), (.tuple []), (.tuple []), (.tuple []), (.tuple []), (.tuple []), (.tuple []), (.tuple []), (.tuple []), (.tuple []), (.tuple []), (.tuple []), (.tuple []), (.tuple []), (.tuple []), (.tuple []), (.tuple []), (.tuple []), (.tuple []), (.tuple []), (.tuple []), (.tuple []), (.tuple []), (.tuple []), (.tuple []), (.tuple []), (.tuple []), (.tuple []), (.tuple []), (.tuple []), (.tuple []), (.tuple []), (.tuple []), (.tuple []), (.tuple []), (.tuple []), (.tuple []), (.tuple []), (.tuple []), (.tuple []), (.tuple []), (.tuple []), (.tuple []), (.tuple []), (.tuple []), (.tuple []), (.tuple []), (.tuple []), (.tuple []), (.tuple []), (.tuple []), (.tuple []), (.tuple []), (.tuple []), (.tuple []), (.tuple []), (.tuple []), (.tuple []), (.tuple []), (.tuple []), (.tuple []), (.tuple []), (.tuple []), (.tuple []), (.tuple []), (.tuple []), (.tuple []), (.tuple []), (.tuple [])], [(some ⟨[], 3, true, false, (some ⟨(.var 2), [(.int .i64)], [(.avar 0)]⟩)⟩), (some ⟨[], 98, true, false, (some ⟨(.var 3), [(.float .f32)], [(.avar 1)]⟩)⟩), (some ⟨[], 98, true, false, (some ⟨(.var 4), [(.float .f32)], [(.avar 2)]⟩)⟩), (some ⟨[(.strn (.var 0)), (.int .i64 (.var 1)), (.asl 0 (.var 2)), (.asl 1 (.var 3)), (.asl 2 (.var 4)), (.int .i64 (.var 5)), (.int .i64 (.var 6))], 26, false, false, none⟩)], [], [(.agg [(.strn (.var 0)), (.int .i64 (.var 1)), (.asl 0 (.var 2)), (.asl 1 (.var 3)), (.asl 2 (.var 4)), (.int .i64 (.var 5)), (.int .i64 (.var 6))]), (.ptr (some ⟨3, 0, none⟩)), (.int .i64 (.lit 0)), (.int .i64 (.lit 0)), (.int .i64 (.var 2)), (.int .i64 (.var 7)), (.ptr (some ⟨3, 0, none⟩)), (.strn (.var 0)), (.bool (.var 0)), (.bool (.not (.var 0))), (.ptr (some ⟨3, 1, none⟩)), (.int .i64 (.var 1)), (.bool (.icmp .neq (.var 1) (.lit 1))), (.bool (.icmp .neq (.var 1) (.lit 1))), (.tuple []), (.tuple []), (.tuple []), (.bool (.lit false)), (.ptr (some ⟨3, 2, none⟩)), (.asl 0 (.var 2)), (.int .i64 (.var 2)), (.ptr (some ⟨3, 1, none⟩)), (.int .i64 (.var 1)), (.bool (.icmp .eql (.var 1) (.lit 2))), (.tuple []), (.tuple []), (.tuple []), (.tuple []), (.tuple []), (.tuple []), (.tuple []), (.tuple []), (.tuple []), (.tuple []), (.tuple []), (.tuple []), (.tuple []), (.tuple []), (.tuple []), (.tuple []), (.tuple []), (.tuple []), (.tuple []), (.tuple []), (.tuple []), (.tuple []), (.ptr (some ⟨3, 5, none⟩)), (.agg [(.int .i64 (.var 5)), (.int .i64 (.var 6))]), (.agg [(.int .i64 (.lit 0)), (.int .i64 (.lit 0))]), (.bool (.not (.and (.icmp .eql (.var 5) (.lit 0)) (.icmp .eql (.var 6) (.lit 0))))), (.int .i64 (.var 2)), (.bool (.icmp .eql (.var 2) (.lit 0))), (.bool (.icmp .eql (.var 2) (.lit 0))), (.ptr (some ⟨3, 3, none⟩)), (.asl 1 (.var 3)), (.int .i64 (.var 3)), (.int .i64 (.var 2)), (.bool (.icmp .neq (.var 3) (.var 2))), (.bool (.icmp .neq (.var 3) (.var 2))), (.bool (.icmp .neq (.var 3) (.var 2))), (.ptr (some ⟨3, 4, none⟩)), (.asl 2 (.var 4)), (.int .i64 (.var 4)), (.int .i64 (.var 2)), (.bool (.icmp .neq (.var 4) (.var 2))), (.bool (.icmp .neq (.var 4) (.var 2))), (.int .i64 (.var 2)), (.bool (.icmp .gtr (.var 2) (.lit 64))), (.any 68), (.any 69), (.any 70), (.any 71), (.any 72), (.any 73), (.any 74), (.any 75), (.any 76), (.any 77), (.any 78), (.any 79), (.tuple []), (.any 81), (.any 82), (.any 83), (.any 84), (.any 85), (.any 86), (.any 87), (.any 88), (.any 89), (.any 90), (.any 91), (.any 92), (.any 93), (.any 94), (.any 95), (.any 96), (.any 97), (.any 98), (.tuple []), (.any 100), (.any 101), (.any 102), (.any 103), (.any 104), (.any 105), (.any 106), (.any 107), (.any 108), (.any 109), (.any 110), (.any 111), (.any 112), (.any 113), (.any 114), (.any 115), (.any 116), (.any 117), (.any 118), (.any 119), (.any 120), (.any 121), (.any 122), (.any 123), (.any 124), (.any 125), (.any 126), (.any 127), (.any 128), (.any 129), (.tuple []), (.any 131), (.any 132), (.any 133), (.any 134), (.any 135), (.any 136), (.any 137), (.any 138), (.any 139), (.any 140), (.any 141), (.any 142), (.any 143), (.any 144), (.any 145), (.any 146), (.tuple [])], [(some ⟨[], 3, true, false, (some ⟨(.var 2), [(.int .i64)], [(.avar 0)]⟩)⟩), (some ⟨[], 98, true, false, (some ⟨(.var 3), [(.float .f32)], [(.avar 1)]⟩)⟩), (some ⟨[], 98, true, false, (some ⟨(.var 4), [(.float .f32)], [(.avar 2)]⟩)⟩), (some ⟨[(.strn (.var 0)), (.int .i64 (.var 1)), (.asl 0 (.var 2)), (.asl 1 (.var 3)), (.asl 2 (.var 4)), (.int .i64 (.var 5)), (.int .i64 (.var 6))], 26, false, false, none⟩)], [], ⟨1, 0, 0⟩, ⟨[(.lit 0)], [], []⟩, []⟩
          (.rng 7 0 64 (.ite (.icmp .leq (.var 2) (.var 7))
           (.out 1 ⟨[], [], []⟩ [])
           (.ite (.icmp .leq (.lit 1000) (.sel (.avar 0) (.var 7)))
            (.ite (.icmp .leq (.sel (.avar 0) (.var 7)) (.lit 200000))
             (.ite (.icmp .leq (.var 3) (.var 7))
              .nil
              (.ite (.fcmp .f32 .neq (.sel (.avar 1) (.var 7)) (.sel (.avar 1) (.var 7)))
               (.out 0 ⟨[(.var 7), (.lit 27)], [], []⟩ [])
               (.call etalonbase_IsWhole_s ⟨[(.bin .cvF (.sel (.avar 1) (.var 7)) (.lit 0))], [], []⟩ ⟨[(.bin .cvF (.sel (.avar 1) (.var 7)) (.lit 0))], [(.var 1)], []⟩ ⟨41, [(.float .f64 (.bin .cvF (.sel (.avar 1) (.var 7)) (.lit 0)))], [], [none, none, none, none], (.bool (.var 1)), []⟩
                (.ite (.var 1)
                (.ite (.icmp .leq (.var 4) (.var 7))
                 .nil
                 (.ite (.fcmp .f32 .neq (.sel (.avar 2) (.var 7)) (.sel (.avar 2) (.var 7)))
                  (.out 0 ⟨[(.var 7), (.lit 27)], [], []⟩ [])
                  (.call etalonbase_IsWhole_s ⟨[(.bin .cvF (.sel (.avar 2) (.var 7)) (.lit 0))], [], []⟩ ⟨[(.bin .cvF (.sel (.avar 2) (.var 7)) (.lit 0))], [(.var 2)], []⟩ ⟨41, [(.float .f64 (.bin .cvF (.sel (.avar 2) (.var 7)) (.lit 0)))], [], [none, none, none, none], (.bool (.var 2)), []⟩
                   (.ite (.var 2)
                   (.ite (.fcmp .f32 .lss (.sel (.avar 1) (.var 7)) (.lit 1167867904))
                    (.out 0 ⟨[(.var 7), (.lit 2)], [], []⟩ [])
                    (.ite (.fcmp .f32 .gtr (.sel (.avar 1) (.var 7)) (.lit 1201422336))
                     (.out 0 ⟨[(.var 7), (.lit 2)], [], []⟩ [])
                     (.ite (.fcmp .f32 .lss (.sel (.avar 2) (.var 7)) (.lit 0))
                      (.out 0 ⟨[(.var 7), (.lit 2)], [], []⟩ [])
                      (.ite (.fcmp .f32 .gtr (.sel (.avar 2) (.var 7)) (.lit 1201422336))
                       (.out 0 ⟨[(.var 7), (.lit 2)], [], []⟩ [])
                       (.ite (.icmp .leq (.var 7) (.lit 0))
                        (.next ⟨[(.bin .addI (.var 7) (.lit 1))], [], []⟩ [])
                        (.ite (.icmp .leq (.var 2) (.bin .subI (.var 7) (.lit 1)))
                         .nil
                         (.ite (.icmp .leq (.sel (.avar 0) (.var 7)) (.sel (.avar 0) (.bin .subI (.var 7) (.lit 1))))
                          (.out 0 ⟨[(.var 7), (.lit 10)], [], []⟩ [])
                          (.next ⟨[(.bin .addI (.var 7) (.lit 1))], [], []⟩ []))))))))
                   (.out 0 ⟨[(.var 7), (.lit 27)], [], []⟩ [])))))
                (.out 0 ⟨[(.var 7), (.lit 27)], [], []⟩ [])))))
             (.out 0 ⟨[(.var 7), (.lit 2)], [], []⟩ []))
            (.out 0 ⟨[(.var 7), (.lit 2)], [], []⟩ []))))
          (.ex (.ret, [(.agg [(.strn (.var 0)), (.int .i64 (.var 1)), (.asl 0 (.var 2)), (.asl 1 (.var 3)), (.asl 2 (.var 4)), (.int .i64 (.var 5)), (.int .i64 (.var 6))]), (.ptr (some ⟨3, 0, none⟩)), (.int .i64 (.var 7)), (.int .i64 (.var 8)), (.int .i64 (.var 2)), (.any 5), (.ptr (some ⟨3, 0, none⟩)), (.strn (.var 0)), (.bool (.var 0)), (.bool (.not (.var 0))), (.ptr (some ⟨3, 1, none⟩)), (.int .i64 (.var 1)), (.bool (.icmp .neq (.var 1) (.lit 1))), (.bool (.icmp .neq (.var 1) (.lit 1))), (.tuple []), (.tuple []), (.tuple []), (.bool (.lit false)), (.ptr (some ⟨3, 2, none⟩)), (.asl 0 (.var 2)), (.int .i64 (.var 2)), (.ptr (some ⟨3, 1, none⟩)), (.int .i64 (.var 1)), (.bool (.icmp .eql (.var 1) (.lit 2))), (.tuple []), (.tuple []), (.tuple []), (.tuple []), (.tuple []), (.tuple []), (.tuple []), (.tuple []), (.tuple []), (.tuple []), (.tuple []), (.tuple []), (.tuple []), (.tuple []), (.tuple []), (.tuple []), (.tuple []), (.tuple []), (.tuple []), (.tuple []), (.tuple []), (.tuple []), (.ptr (some ⟨3, 5, none⟩)), (.agg [(.int .i64 (.var 5)), (.int .i64 (.var 6))]), (.agg [(.int .i64 (.lit 0)), (.int .i64 (.lit 0))]), (.bool (.not (.and (.icmp .eql (.var 5) (.lit 0)) (.icmp .eql (.var 6) (.lit 0))))), (.int .i64 (.var 2)), (.bool (.icmp .eql (.var 2) (.lit 0))), (.bool (.icmp .eql (.var 2) (.lit 0))), (.ptr (some ⟨3, 3, none⟩)), (.asl 1 (.var 3)), (.int .i64 (.var 3)), (.int .i64 (.var 2)), (.bool (.icmp .neq (.var 3) (.var 2))), (.bool (.icmp .neq (.var 3) (.var 2))), (.bool (.icmp .neq (.var 3) (.var 2))), (.ptr (some ⟨3, 4, none⟩)), (.asl 2 (.var 4)), (.int .i64 (.var 4)), (.int .i64 (.var 2)), (.bool (.icmp .neq (.var 4) (.var 2))), (.bool (.icmp .neq (.var 4) (.var 2))), (.int .i64 (.var 2)), (.bool (.icmp .gtr (.var 2) (.lit 64))), (.any 68), (.any 69), (.any 70), (.any 71), (.any 72), (.any 73), (.any 74), (.any 75), (.any 76), (.any 77), (.any 78), (.any 79), (.any 80), (.any 81), (.any 82), (.any 83), (.any 84), (.any 85), (.any 86), (.any 87), (.any 88), (.any 89), (.any 90), (.any 91), (.any 92), (.any 93), (.any 94), (.any 95), (.any 96), (.any 97), (.any 98), (.any 99), (.any 100), (.any 101), (.any 102), (.any 103), (.any 104), (.any 105), (.any 106), (.any 107), (.any 108), (.any 109), (.any 110), (.any 111), (.any 112), (.any 113), (.any 114), (.any 115), (.any 116), (.any 117), (.any 118), (.any 119), (.any 120), (.any 121), (.any 122), (.any 123), (.any 124), (.any 125), (.any 126), (.any 127), (.any 128), (.any 129), (.any 130), (.any 131), (.any 132), (.any 133), (.any 134), (.any 135), (.any 136), (.any 137), (.any 138), (.any 139), (.any 140), (.any 141), (.any 142), (.any 143), (.any 144), (.any 145), (.any 146), (.any 147)], [(some ⟨[], 3, true, false, (some ⟨(.var 2), [(.int .i64)], [(.avar 0)]⟩)⟩), (some ⟨[], 98, true, false, (some ⟨(.var 3), [(.float .f32)], [(.avar 1)]⟩)⟩), (some ⟨[], 98, true, false, (some ⟨(.var 4), [(.float .f32)], [(.avar 2)]⟩)⟩), (some ⟨[(.strn (.var 0)), (.int .i64 (.var 1)), (.asl 0 (.var 2)), (.asl 1 (.var 3)), (.asl 2 (.var 4)), (.int .i64 (.var 5)), (.int .i64 (.var 6))], 26, false, false, none⟩)], []) ⟨2, 0, 0⟩
          (.rng 7 (-9223372036854775808) 9223372036854775807 (.rng 8 (-9223372036854775808) 9223372036854775807 (.ret ⟨[(.var 7), (.var 8)], [], []⟩ [])))
          (.ex ((.exit 0), [(.agg [(.strn (.var 0)), (.int .i64 (.var 1)), (.asl 0 (.var 2)), (.asl 1 (.var 3)), (.asl 2 (.var 4)), (.int .i64 (.var 5)), (.int .i64 (.var 6))]), (.ptr (some ⟨3, 0, none⟩)), (.int .i64 (.lit 0)), (.int .i64 (.lit 0)), (.int .i64 (.var 2)), (.any 5), (.ptr (some ⟨3, 0, none⟩)), (.strn (.var 0)), (.bool (.var 0)), (.bool (.not (.var 0))), (.ptr (some ⟨3, 1, none⟩)), (.int .i64 (.var 1)), (.bool (.icmp .neq (.var 1) (.lit 1))), (.bool (.icmp .neq (.var 1) (.lit 1))), (.tuple []), (.tuple []), (.tuple []), (.bool (.lit false)), (.ptr (some ⟨3, 2, none⟩)), (.asl 0 (.var 2)), (.int .i64 (.var 2)), (.ptr (some ⟨3, 1, none⟩)), (.int .i64 (.var 1)), (.bool (.icmp .eql (.var 1) (.lit 2))), (.tuple []), (.tuple []), (.tuple []), (.tuple []), (.tuple []), (.tuple []), (.tuple []), (.tuple []), (.tuple []), (.tuple []), (.tuple []), (.tuple []), (.tuple []), (.tuple []), (.tuple []), (.tuple []), (.tuple []), (.tuple []), (.tuple []), (.tuple []), (.tuple []), (.tuple []), (.ptr (some ⟨3, 5, none⟩)), (.agg [(.int .i64 (.var 5)), (.int .i64 (.var 6))]), (.agg [(.int .i64 (.lit 0)), (.int .i64 (.lit 0))]), (.bool (.not (.and (.icmp .eql (.var 5) (.lit 0)) (.icmp .eql (.var 6) (.lit 0))))), (.int .i64 (.var 2)), (.bool (.icmp .eql (.var 2) (.lit 0))), (.bool (.icmp .eql (.var 2) (.lit 0))), (.ptr (some ⟨3, 3, none⟩)), (.asl 1 (.var 3)), (.int .i64 (.var 3)), (.int .i64 (.var 2)), (.bool (.icmp .neq (.var 3) (.var 2))), (.bool (.icmp .neq (.var 3) (.var 2))), (.bool (.icmp .neq (.var 3) (.var 2))), (.ptr (some ⟨3, 4, none⟩)), (.asl 2 (.var 4)), (.int .i64 (.var 4)), (.int .i64 (.var 2)), (.bool (.icmp .neq (.var 4) (.var 2))), (.bool (.icmp .neq (.var 4) (.var 2))), (.int .i64 (.var 2)), (.bool (.icmp .gtr (.var 2) (.lit 64))), (.any 68), (.any 69), (.any 70), (.any 71), (.any 72), (.any 73), (.any 74), (.any 75), (.any 76), (.any 77), (.any 78), (.any 79), (.tuple []), (.any 81), (.any 82), (.any 83), (.any 84), (.any 85), (.any 86), (.any 87), (.any 88), (.any 89), (.any 90), (.any 91), (.any 92), (.any 93), (.any 94), (.any 95), (.any 96), (.any 97), (.any 98), (.tuple []), (.any 100), (.any 101), (.any 102), (.any 103), (.any 104), (.any 105), (.any 106), (.any 107), (.any 108), (.any 109), (.any 110), (.any 111), (.any 112), (.any 113), (.any 114), (.any 115), (.any 116), (.any 117), (.any 118), (.any 119), (.any 120), (.any 121), (.any 122), (.any 123), (.any 124), (.any 125), (.any 126), (.any 127), (.any 128), (.any 129), (.tuple []), (.any 131), (.any 132), (.any 133), (.any 134), (.any 135), (.any 136), (.any 137), (.any 138), (.any 139), (.any 140), (.any 141), (.any 142), (.any 143), (.any 144), (.any 145), (.any 146), (.tuple [])], [(some ⟨[], 3, true, false, (some ⟨(.var 2), [(.int .i64)], [(.avar 0)]⟩)⟩), (some ⟨[], 98, true, false, (some ⟨(.var 3), [(.float .f32)], [(.avar 1)]⟩)⟩), (some ⟨[], 98, true, false, (some ⟨(.var 4), [(.float .f32)], [(.avar 2)]⟩)⟩), (some ⟨[(.strn (.var 0)), (.int .i64 (.var 1)), (.asl 0 (.var 2)), (.asl 1 (.var 3)), (.asl 2 (.var 4)), (.int .i64 (.var 5)), (.int .i64 (.var 6))], 26, false, false, none⟩)], []) ⟨0, 0, 0⟩
          (.ret ⟨[(.lit 0), (.lit 0)], [], []⟩ [])
          .nil)))
         (.ret ⟨[(.lit 0), (.lit 8)], [], []⟩ []))
        (.ret ⟨[(.lit 0), (.lit 12)], [], []⟩ []))
       (.ret ⟨[(.lit 0), (.lit 12)], [], []⟩ [])))
     (.ret ⟨[(.lit 0), (.lit 13)], [], []⟩ []))
    (.ret ⟨[(.lit 0), (.lit 13)], [], []⟩ []))
   (.ite (.icmp .eql (.var 1) (.lit 2))
    (.ite (.icmp .leq (.var 2) (.lit 0))
     (.ite (.icmp .leq (.var 3) (.lit 0))
      (.ite (.icmp .leq (.var 4) (.lit 0))
       (.ite (.icmp .leq (.lit 5000) (.var 5))
        (.ite (.icmp .leq (.var 5) (.lit 60000))
         (.ite (.icmp .leq (.lit 0) (.var 6))
          (.ite (.icmp .leq (.var 6) (.lit 20000))
           (.ret ⟨[(.lit 0), (.lit 0)], [], []⟩ [])
           (.ret ⟨[(.lit 0), (.lit 2)], [], []⟩ []))
          (.ret ⟨[(.lit 0), (.lit 2)], [], []⟩ []))
         (.ret ⟨[(.lit 0), (.lit 2)], [], []⟩ []))
        (.ret ⟨[(.lit 0), (.lit 2)], [], []⟩ []))
       (.ret ⟨[(.lit 0), (.lit 13)], [], []⟩ []))
      (.ret ⟨[(.lit 0), (.lit 13)], [], []⟩ []))
     (.ret ⟨[(.lit 0), (.lit 13)], [], []⟩ []))
    (.ret ⟨[(.lit 0), (.lit 11)], [], []⟩ [])))
  (.ret ⟨[(.lit 0), (.lit 3)], [], []⟩ [])))
theorem rcg {x0 x1 x2 x3 x4 x5 x6 : Int} {f0 f1 f2 : Int → Int} (r1 : (-9223372036854775808) ≤ x1 ∧ x1 ≤ 9223372036854775807) (r2 : 0 ≤ x2 ∧ x2 ≤ 140737488355328) (r3 : 0 ≤ x3 ∧ x3 ≤ 140737488355328) (r4 : 0 ≤ x4 ∧ x4 ≤ 140737488355328) (r5 : (-9223372036854775808) ≤ x5 ∧ x5 ≤ 9223372036854775807) (r6 : (-9223372036854775808) ≤ x6 ∧ x6 ≤ 9223372036854775807) (s0 : ∀ q, (-9223372036854775808) ≤ f0 q ∧ f0 q ≤ 9223372036854775807) {R : Int → Int → Prop}
  (H : (∃ u0 : Bool, Spec Tryz.prog etalonbase_IsName_s ⟨[x0], [], []⟩ [] [u0] [] ∧
   ((u0 = true → ((((x1 : Int) == 1) = true → ((((x5 : Int) == 0) = true → ((((x6 : Int) == 0) = true → ((((x2 : Int) == 0) = true → R (0) (12)) ∧
       (((x2 : Int) == 0) = false → ((((x3 : Int) == x2) = true → ((((x4 : Int) == x2) = true → ((decide ((x2 : Int) ≤ 64) = true → (∃ (I7 : Int → Prop) (rk7 : Int → Nat), I7 (0) ∧
           (∀ x7 : Int, I7 x7 → ((0 ≤ (x7 : Int) ∧ (x7 : Int) ≤ 64) ∧ ((decide ((x2 : Int) ≤ x7) = true → R (0) (0)) ∧
            (decide ((x2 : Int) ≤ x7) = false → ((decide ((1000 : Int) ≤ (f0 x7)) = true → ((decide (((f0 x7) : Int) ≤ 200000) = true → ((decide ((x3 : Int) ≤ x7) = true → False) ∧
               (decide ((x3 : Int) ≤ x7) = false → ((COp.flo .f32 .neq ((f1 x7) : Int).toNat ((f1 x7) : Int).toNat = true → (((-9223372036854775808) ≤ ((x7) : Int) ∧ ((x7) : Int) ≤ 9223372036854775807) ∧ (((-9223372036854775808) ≤ ((27) : Int) ∧ ((27) : Int) ≤ 9223372036854775807) ∧ R ((x7)) ((27))))) ∧
                (COp.flo .f32 .neq ((f1 x7) : Int).toNat ((f1 x7) : Int).toNat = false → (∃ u1 : Bool, Spec Tryz.prog etalonbase_IsWhole_s ⟨[(NOp.den .cvF (f1 x7) 0)], [], []⟩ [] [u1] [] ∧
                 ((u1 = true → ((decide ((x4 : Int) ≤ x7) = true → False) ∧
                  (decide ((x4 : Int) ≤ x7) = false → ((COp.flo .f32 .neq ((f2 x7) : Int).toNat ((f2 x7) : Int).toNat = true → (((-9223372036854775808) ≤ ((x7) : Int) ∧ ((x7) : Int) ≤ 9223372036854775807) ∧ (((-9223372036854775808) ≤ ((27) : Int) ∧ ((27) : Int) ≤ 9223372036854775807) ∧ R ((x7)) ((27))))) ∧
                   (COp.flo .f32 .neq ((f2 x7) : Int).toNat ((f2 x7) : Int).toNat = false → (∃ u2 : Bool, Spec Tryz.prog etalonbase_IsWhole_s ⟨[(NOp.den .cvF (f2 x7) 0)], [], []⟩ [] [u2] [] ∧
                    ((u2 = true → ((COp.flo .f32 .lss ((f1 x7) : Int).toNat (1167867904 : Int).toNat = true → (((-9223372036854775808) ≤ ((x7) : Int) ∧ ((x7) : Int) ≤ 9223372036854775807) ∧ (((-9223372036854775808) ≤ ((2) : Int) ∧ ((2) : Int) ≤ 9223372036854775807) ∧ R ((x7)) ((2))))) ∧
                     (COp.flo .f32 .lss ((f1 x7) : Int).toNat (1167867904 : Int).toNat = false → ((COp.flo .f32 .gtr ((f1 x7) : Int).toNat (1201422336 : Int).toNat = true → (((-9223372036854775808) ≤ ((x7) : Int) ∧ ((x7) : Int) ≤ 9223372036854775807) ∧ (((-9223372036854775808) ≤ ((2) : Int) ∧ ((2) : Int) ≤ 9223372036854775807) ∧ R ((x7)) ((2))))) ∧
                      (COp.flo .f32 .gtr ((f1 x7) : Int).toNat (1201422336 : Int).toNat = false → ((COp.flo .f32 .lss ((f2 x7) : Int).toNat (0 : Int).toNat = true → (((-9223372036854775808) ≤ ((x7) : Int) ∧ ((x7) : Int) ≤ 9223372036854775807) ∧ (((-9223372036854775808) ≤ ((2) : Int) ∧ ((2) : Int) ≤ 9223372036854775807) ∧ R ((x7)) ((2))))) ∧
                       (COp.flo .f32 .lss ((f2 x7) : Int).toNat (0 : Int).toNat = false → ((COp.flo .f32 .gtr ((f2 x7) : Int).toNat (1201422336 : Int).toNat = true → (((-9223372036854775808) ≤ ((x7) : Int) ∧ ((x7) : Int) ≤ 9223372036854775807) ∧ (((-9223372036854775808) ≤ ((2) : Int) ∧ ((2) : Int) ≤ 9223372036854775807) ∧ R ((x7)) ((2))))) ∧
                        (COp.flo .f32 .gtr ((f2 x7) : Int).toNat (1201422336 : Int).toNat = false → ((decide ((x7 : Int) ≤ 0) = true → (I7 ((x7 + 1)) ∧ rk7 ((x7 + 1)) < rk7 x7)) ∧
                         (decide ((x7 : Int) ≤ 0) = false → ((decide ((x2 : Int) ≤ (x7 - 1)) = true → False) ∧
                          (decide ((x2 : Int) ≤ (x7 - 1)) = false → ((decide (((f0 x7) : Int) ≤ (f0 (x7 - 1))) = true → (((-9223372036854775808) ≤ ((x7) : Int) ∧ ((x7) : Int) ≤ 9223372036854775807) ∧ (((-9223372036854775808) ≤ ((10) : Int) ∧ ((10) : Int) ≤ 9223372036854775807) ∧ R ((x7)) ((10))))) ∧
                           (decide (((f0 x7) : Int) ≤ (f0 (x7 - 1))) = false → (I7 ((x7 + 1)) ∧ rk7 ((x7 + 1)) < rk7 x7)))))))))))))))) ∧
                    (u2 = false → (((-9223372036854775808) ≤ ((x7) : Int) ∧ ((x7) : Int) ≤ 9223372036854775807) ∧ (((-9223372036854775808) ≤ ((27) : Int) ∧ ((27) : Int) ≤ 9223372036854775807) ∧ R ((x7)) ((27)))))))))))) ∧
                 (u1 = false → (((-9223372036854775808) ≤ ((x7) : Int) ∧ ((x7) : Int) ≤ 9223372036854775807) ∧ (((-9223372036854775808) ≤ ((27) : Int) ∧ ((27) : Int) ≤ 9223372036854775807) ∧ R ((x7)) ((27)))))))))))) ∧
              (decide (((f0 x7) : Int) ≤ 200000) = false → (((-9223372036854775808) ≤ ((x7) : Int) ∧ ((x7) : Int) ≤ 9223372036854775807) ∧ (((-9223372036854775808) ≤ ((2) : Int) ∧ ((2) : Int) ≤ 9223372036854775807) ∧ R ((x7)) ((2))))))) ∧
             (decide ((1000 : Int) ≤ (f0 x7)) = false → (((-9223372036854775808) ≤ ((x7) : Int) ∧ ((x7) : Int) ≤ 9223372036854775807) ∧ (((-9223372036854775808) ≤ ((2) : Int) ∧ ((2) : Int) ≤ 9223372036854775807) ∧ R ((x7)) ((2)))))))))))) ∧
          (decide ((x2 : Int) ≤ 64) = false → R (0) (8)))) ∧
         (((x4 : Int) == x2) = false → R (0) (12)))) ∧
        (((x3 : Int) == x2) = false → R (0) (12)))))) ∧
      (((x6 : Int) == 0) = false → R (0) (13)))) ∧
     (((x5 : Int) == 0) = false → R (0) (13)))) ∧
    (((x1 : Int) == 1) = false → ((((x1 : Int) == 2) = true → ((decide ((x2 : Int) ≤ 0) = true → ((decide ((x3 : Int) ≤ 0) = true → ((decide ((x4 : Int) ≤ 0) = true → ((decide ((5000 : Int) ≤ x5) = true → ((decide ((x5 : Int) ≤ 60000) = true → ((decide ((0 : Int) ≤ x6) = true → ((decide ((x6 : Int) ≤ 20000) = true → R (0) (0)) ∧
            (decide ((x6 : Int) ≤ 20000) = false → R (0) (2)))) ∧
           (decide ((0 : Int) ≤ x6) = false → R (0) (2)))) ∧
          (decide ((x5 : Int) ≤ 60000) = false → R (0) (2)))) ∧
         (decide ((5000 : Int) ≤ x5) = false → R (0) (2)))) ∧
        (decide ((x4 : Int) ≤ 0) = false → R (0) (13)))) ∧
       (decide ((x3 : Int) ≤ 0) = false → R (0) (13)))) ∧
      (decide ((x2 : Int) ≤ 0) = false → R (0) (13)))) ∧
     (((x1 : Int) == 2) = false → R (0) (11)))))) ∧
   (u0 = false → R (0) (3))))) :
    ∃ v0 : Int, ∃ v1 : Int, R v0 v1 ∧ Spec Tryz.prog etalonref02_CheckGlass_s ⟨[x0, x1, x2, x3, x4, x5, x6], [], [f0, f1, f2]⟩ [v0, v1] [] [] :=
  Eq.mp (by kernel_rfl) (exV_of (K := fun d => app3 etalonref02_CheckGlass_s.out R d ∧ Spec Tryz.prog etalonref02_CheckGlass_s ⟨[x0, x1, x2, x3, x4, x5, x6], [], [f0, f1, f2]⟩ d.1 d.2.1 d.2.2) (tree_at mixed names S2_ok (S := S2 Tryz.prog) (lf := 100000) (d := 60) etalonref02_CheckGlass_s rcg_t { ivs := [(1, (-9223372036854775808), 9223372036854775807), (2, 0, 140737488355328), (3, 0, 140737488355328), (4, 0, 140737488355328), (5, (-9223372036854775808), 9223372036854775807), (6, (-9223372036854775808), 9223372036854775807)], aivs := [(0, (-9223372036854775808), 9223372036854775807)] } ⟨[x0, x1, x2, x3, x4, x5, x6], [], [f0, f1, f2]⟩ rfl (by kernel_rfl) (by kernel_rfl) (by kernel_rfl) ⟨(fc r1 (fc r2 (fc r3 (fc r4 (fc r5 (fc r6 fz)))))), fz, (fc s0 fz), fz⟩ (R := fun d => app3 etalonref02_CheckGlass_s.out R d) (Eq.mp (by kernel_rfl) H)))

theorem widen_U (b : Nat) : widen b < 18446744073709551616 := Ieee.Format.write_lt Ieee.double _

theorem wh_p (v : Int) : Spec Tryz.prog whole_IsWhole_s ⟨[NOp.den .cvF v 0], [], []⟩ [] [whB (widen v.toNat)] [] := whole_rs (widen_U _)

theorem wh_r (v : Int) : Spec Tryz.prog etalonbase_IsWhole_s ⟨[NOp.den .cvF v 0], [], []⟩ [] [whB (widen v.toNat)] [] := Spec.of rfl rfl rfl rfl fun w => base_raw (widen_U _) w

/-- The error of a row. -/

def rowE (f0 f1 f2 : Int → Int) (i : Int) : Int :=

  if ¬ (1000 ≤ f0 i ∧ f0 i ≤ 200000) then 2 else

  if COp.flo .f32 .neq (f1 i).toNat (f1 i).toNat = true then 27 else if whB (widen (f1 i).toNat) = false then 27 else

  if COp.flo .f32 .neq (f2 i).toNat (f2 i).toNat = true then 27 else if whB (widen (f2 i).toNat) = false then 27 else

  if COp.flo .f32 .lss (f1 i).toNat (1167867904 : Int).toNat = true then 2 else if COp.flo .f32 .gtr (f1 i).toNat (1201422336 : Int).toNat = true then 2 else

  if COp.flo .f32 .lss (f2 i).toNat (0 : Int).toNat = true then 2 else if COp.flo .f32 .gtr (f2 i).toNat (1201422336 : Int).toNat = true then 2 else

  if 0 < i ∧ f0 i ≤ f0 (i - 1) then 10 else 0

/-- The first wrong row from i on, and its error. -/

def rst (E : Int → Int) : Nat → Int → Int × Int

  | 0, _ => (0, 0)

  | k + 1, i => if E i = 0 then rst E k (i + 1) else (i, E i)

theorem rst_step {E : Int → Int} {n i : Int} (h : 0 ≤ i ∧ i < n) : rst E (n - i).toNat i = if E i = 0 then rst E (n - (i + 1)).toNat (i + 1) else (i, E i) := by

  rw [show (n - i).toNat = (n - (i + 1)).toNat + 1 by omega, rst]

/-- The number of a row, and the error, of a material. -/

def glE (u : Bool) (x1 x2 x3 x4 x5 x6 : Int) (f0 f1 f2 : Int → Int) : Int × Int :=

  if u = true then (

    if x1 = 1 then (if ¬ (x5 = 0 ∧ x6 = 0) then (0, 13) else if ¬ (x2 ≠ 0 ∧ x3 = x2 ∧ x4 = x2) then (0, 12) else if ¬ x2 ≤ 64 then (0, 8) else rst (rowE f0 f1 f2) x2.toNat 0)

    else if x1 = 2 then (if ¬ (x2 ≤ 0 ∧ x3 ≤ 0 ∧ x4 ≤ 0) then (0, 13) else if 5000 ≤ x5 ∧ x5 ≤ 60000 ∧ 0 ≤ x6 ∧ x6 ≤ 20000 then (0, 0) else (0, 2))

    else (0, 11)) else (0, 3)

set_option maxHeartbeats 8000000 in

theorem checkGlass_p {x0 x1 x2 x3 x4 x5 x6 : Int} {f0 f1 f2 : Int → Int} {u : Bool} (hu : Spec Tryz.prog text_IsName_s ⟨[x0], [], []⟩ [] [u] []) (r1 : (-9223372036854775808) ≤ x1 ∧ x1 ≤ 9223372036854775807) (r2 : 0 ≤ x2 ∧ x2 ≤ 140737488355328) (r3 : 0 ≤ x3 ∧ x3 ≤ 140737488355328) (r4 : 0 ≤ x4 ∧ x4 ≤ 140737488355328) (r5 : (-9223372036854775808) ≤ x5 ∧ x5 ≤ 9223372036854775807) (r6 : (-9223372036854775808) ≤ x6 ∧ x6 ≤ 9223372036854775807) (s0 : ∀ q, (-9223372036854775808) ≤ f0 q ∧ f0 q ≤ 9223372036854775807) :

    Spec Tryz.prog glass_CheckGlass_s ⟨[x0, x1, x2, x3, x4, x5, x6], [], [f0, f1, f2]⟩ [(glE u x1 x2 x3 x4 x5 x6 f0 f1 f2).1, (glE u x1 x2 x3 x4 x5 x6 f0 f1 f2).2] [] [] := by

  obtain ⟨a, b, ⟨rfl, rfl⟩, hs⟩ := cg (x0 := x0) (f1 := f1) (f2 := f2) r1 r2 r3 r4 r5 r6 s0 (R := fun a b => a = (glE u x1 x2 x3 x4 x5 x6 f0 f1 f2).1 ∧ b = (glE u x1 x2 x3 x4 x5 x6 f0 f1 f2).2) (by

    refine ⟨u, hu, ?_⟩

    simp only [decide_eq_true_eq, decide_eq_false_iff_not, beq_iff_eq, beq_eq_false_iff_ne, ne_eq]

    have tab (hu : u = true) (h1 : x1 = 1) (h5 : x5 = 0) (h6 : x6 = 0) (h2 : ¬ x2 = 0) (h3 : x3 = x2) (h4 : x4 = x2) (h64 : x2 ≤ 64) : glE u x1 x2 x3 x4 x5 x6 f0 f1 f2 = rst (rowE f0 f1 f2) x2.toNat 0 := by

      unfold glE; rw [if_pos hu, if_pos h1, if_neg (by omega), if_neg (by omega), if_neg (by omega)]

    refine ⟨fun hu => ⟨fun h1 => ⟨fun h5 => ⟨fun h6 => ⟨fun h2 => ?_, fun h2 => ⟨fun h3 => ⟨fun h4 => ⟨fun h64 => ?_, fun h64 => ?_⟩, fun h4 => ?_⟩, fun h3 => ?_⟩⟩, fun h6 => ?_⟩, fun h5 => ?_⟩, fun h1 => ?_⟩, fun hu => ?_⟩

    case refine_2 =>

      rw [tab hu h1 h5 h6 h2 h3 h4 h64]

      refine ⟨fun i => 0 ≤ i ∧ i ≤ x2 ∧ rst (rowE f0 f1 f2) (x2 - i).toNat i = rst (rowE f0 f1 f2) x2.toNat 0, fun i => (x2 - i).toNat, ⟨by omega, by omega, by rw [Int.sub_zero]⟩, ?_⟩

      rintro i ⟨g0, g1, g2⟩

      refine ⟨by omega, fun g3 => ?_, fun g3 => ?_⟩

      · rw [← g2, show (x2 - i).toNat = 0 by omega]; exact ⟨rfl, rfl⟩

      · have st := rst_step (E := rowE f0 f1 f2) (n := x2) (i := i) (by omega)

        have out {e : Int} (h : rowE f0 f1 f2 i = e) (he : e ≠ 0) : i = (rst (rowE f0 f1 f2) x2.toNat 0).1 ∧ e = (rst (rowE f0 f1 f2) x2.toNat 0).2 := by

          rw [← g2, st, if_neg (by rw [h]; exact he), h]; exact ⟨rfl, rfl⟩

        have on (h : rowE f0 f1 f2 i = 0) : (0 ≤ i + 1 ∧ i + 1 ≤ x2 ∧ rst (rowE f0 f1 f2) (x2 - (i + 1)).toNat (i + 1) = rst (rowE f0 f1 f2) x2.toNat 0) ∧ (x2 - (i + 1)).toNat < (x2 - i).toNat := by

          refine ⟨⟨by omega, by omega, ?_⟩, by omega⟩

          rw [← g2, st, if_pos h]

        repeat' (first | (refine ⟨fun _ => ?_, fun _ => ?_⟩) | (refine ⟨_, wh_p _, fun _ => ?_, fun _ => ?_⟩) | fail)

        all_goals first

          | omega

          | (refine ⟨by omega, by omega, out (e := 2) ?_ (by decide)⟩; unfold rowE; (repeat (first | rw [if_pos (by first | assumption | omega)] | rw [if_neg (by first | omega | (simp only [*]; decide))])); done)

          | (refine ⟨by omega, by omega, out (e := 27) ?_ (by decide)⟩; unfold rowE; (repeat (first | rw [if_pos (by first | assumption | omega)] | rw [if_neg (by first | omega | (simp only [*]; decide))])); done)

          | (refine ⟨by omega, by omega, out (e := 10) ?_ (by decide)⟩; unfold rowE; (repeat (first | rw [if_pos (by first | assumption | omega)] | rw [if_neg (by first | omega | (simp only [*]; decide))])); done)

          | (refine on ?_; unfold rowE; (repeat (first | rw [if_pos (by first | assumption | omega)] | rw [if_neg (by first | omega | (simp only [*]; decide))])); done)

    all_goals (unfold glE)

    all_goals (repeat' (first | (refine ⟨fun _ => ?_, fun _ => ?_⟩) | fail))

    all_goals (repeat (first | rw [if_pos (by first | assumption | omega)] | rw [if_neg (by first | omega | (simp only [*]; decide))]))

    all_goals (first | exact ⟨rfl, rfl⟩ | simp))

  exact hs

set_option maxHeartbeats 8000000 in

theorem checkGlass_r {x0 x1 x2 x3 x4 x5 x6 : Int} {f0 f1 f2 : Int → Int} {u : Bool} (hu : Spec Tryz.prog etalonbase_IsName_s ⟨[x0], [], []⟩ [] [u] []) (r1 : (-9223372036854775808) ≤ x1 ∧ x1 ≤ 9223372036854775807) (r2 : 0 ≤ x2 ∧ x2 ≤ 140737488355328) (r3 : 0 ≤ x3 ∧ x3 ≤ 140737488355328) (r4 : 0 ≤ x4 ∧ x4 ≤ 140737488355328) (r5 : (-9223372036854775808) ≤ x5 ∧ x5 ≤ 9223372036854775807) (r6 : (-9223372036854775808) ≤ x6 ∧ x6 ≤ 9223372036854775807) (s0 : ∀ q, (-9223372036854775808) ≤ f0 q ∧ f0 q ≤ 9223372036854775807) :

    Spec Tryz.prog etalonref02_CheckGlass_s ⟨[x0, x1, x2, x3, x4, x5, x6], [], [f0, f1, f2]⟩ [(glE u x1 x2 x3 x4 x5 x6 f0 f1 f2).1, (glE u x1 x2 x3 x4 x5 x6 f0 f1 f2).2] [] [] := by

  obtain ⟨a, b, ⟨rfl, rfl⟩, hs⟩ := rcg (x0 := x0) (f1 := f1) (f2 := f2) r1 r2 r3 r4 r5 r6 s0 (R := fun a b => a = (glE u x1 x2 x3 x4 x5 x6 f0 f1 f2).1 ∧ b = (glE u x1 x2 x3 x4 x5 x6 f0 f1 f2).2) (by

    refine ⟨u, hu, ?_⟩

    simp only [decide_eq_true_eq, decide_eq_false_iff_not, beq_iff_eq, beq_eq_false_iff_ne, ne_eq]

    have tab (hu : u = true) (h1 : x1 = 1) (h5 : x5 = 0) (h6 : x6 = 0) (h2 : ¬ x2 = 0) (h3 : x3 = x2) (h4 : x4 = x2) (h64 : x2 ≤ 64) : glE u x1 x2 x3 x4 x5 x6 f0 f1 f2 = rst (rowE f0 f1 f2) x2.toNat 0 := by

      unfold glE; rw [if_pos hu, if_pos h1, if_neg (by omega), if_neg (by omega), if_neg (by omega)]

    refine ⟨fun hu => ?_, fun hu => ?_⟩

    all_goals (repeat' (first | (refine ⟨fun _ => ?_, fun _ => ?_⟩) | fail))

    all_goals first

      | (rw [tab hu (by omega) (by omega) (by omega) (by omega) (by omega) (by omega) (by omega)]

         refine ⟨fun i => 0 ≤ i ∧ i ≤ x2 ∧ rst (rowE f0 f1 f2) (x2 - i).toNat i = rst (rowE f0 f1 f2) x2.toNat 0, fun i => (x2 - i).toNat, ⟨by omega, by omega, by rw [Int.sub_zero]⟩, ?_⟩

         rintro i ⟨g0, g1, g2⟩

         refine ⟨by omega, fun g3 => ?_, fun g3 => ?_⟩

         · rw [← g2, show (x2 - i).toNat = 0 by omega]; exact ⟨rfl, rfl⟩

         · have st := rst_step (E := rowE f0 f1 f2) (n := x2) (i := i) (by omega)

           have out {e : Int} (h : rowE f0 f1 f2 i = e) (he : e ≠ 0) : i = (rst (rowE f0 f1 f2) x2.toNat 0).1 ∧ e = (rst (rowE f0 f1 f2) x2.toNat 0).2 := by

             rw [← g2, st, if_neg (by rw [h]; exact he), h]; exact ⟨rfl, rfl⟩

           have on (h : rowE f0 f1 f2 i = 0) : (0 ≤ i + 1 ∧ i + 1 ≤ x2 ∧ rst (rowE f0 f1 f2) (x2 - (i + 1)).toNat (i + 1) = rst (rowE f0 f1 f2) x2.toNat 0) ∧ (x2 - (i + 1)).toNat < (x2 - i).toNat := by

             refine ⟨⟨by omega, by omega, ?_⟩, by omega⟩

             rw [← g2, st, if_pos h]

           repeat' (first | (refine ⟨fun _ => ?_, fun _ => ?_⟩) | (refine ⟨_, wh_r _, fun _ => ?_, fun _ => ?_⟩) | fail)

           all_goals first

             | omega

             | (refine ⟨by omega, by omega, out (e := 2) ?_ (by decide)⟩; unfold rowE; (repeat (first | rw [if_pos (by first | assumption | omega)] | rw [if_neg (by first | omega | (simp only [*]; decide))])); done)

             | (refine ⟨by omega, by omega, out (e := 27) ?_ (by decide)⟩; unfold rowE; (repeat (first | rw [if_pos (by first | assumption | omega)] | rw [if_neg (by first | omega | (simp only [*]; decide))])); done)

             | (refine ⟨by omega, by omega, out (e := 10) ?_ (by decide)⟩; unfold rowE; (repeat (first | rw [if_pos (by first | assumption | omega)] | rw [if_neg (by first | omega | (simp only [*]; decide))])); done)

             | (refine on ?_; unfold rowE; (repeat (first | rw [if_pos (by first | assumption | omega)] | rw [if_neg (by first | omega | (simp only [*]; decide))])); done))

      | (unfold glE

         (repeat (first | rw [if_pos (by first | assumption | omega)] | rw [if_neg (by first | omega | (simp only [*]; decide))]))

         first | exact ⟨rfl, rfl⟩ | simp; done))

  exact hs

end Go.Proofs.YtfgdockgdbdoiaaGreat.Ev
