/- Degrees of readings, of the program and of the reference. -/
import Derived.Test.YtbeflbedopjhpaaGreatFcrd
import Derived.Test.YtbeflbedopjhpaaGreatFrd
namespace Go.Proofs.YtbeflbedopjhpaaGreat.Ev
set_option linter.unusedSimpArgs false
open Go Go.RowKit
set_option linter.unusedVariables false
set_option maxRecDepth 100000
def span_Quotient_s : Sig := ⟨49, ⟨2, 0, 0⟩, ⟨2, 0, 0⟩, [(.int .i64 (.var 0)), (.int .i64 (.var 1))], [], (.agg [(.int .i64 (.var 2)), (.int .i64 (.var 3))]), []⟩
def meter_square_s : Sig := ⟨51, ⟨2, 0, 0⟩, ⟨2, 0, 0⟩, [(.agg [(.int .i64 (.var 0)), (.int .i64 (.var 1))])], [], (.agg [(.int .i64 (.var 2)), (.int .i64 (.var 3))]), []⟩
def meter_DegreeOf_s : Sig := ⟨5, ⟨10, 0, 0⟩, ⟨3, 0, 0⟩, [(.agg [(.strn (.var 0)), (.int .i64 (.var 1)), (.int .i64 (.var 2)), (.int .i64 (.var 3)), (.int .i64 (.var 4)), (.int .i64 (.var 5)), (.int .i64 (.var 6)), (.int .i64 (.var 7)), (.int .i64 (.var 8)), (.int .i64 (.var 9))])], [], (.tuple [(.agg [(.int .i64 (.var 10)), (.int .i64 (.var 11))]), (.int .i64 (.var 12))]), []⟩
def meter_Possible_s : Sig := ⟨6, ⟨10, 0, 0⟩, ⟨2, 0, 0⟩, [(.agg [(.strn (.var 0)), (.int .i64 (.var 1)), (.int .i64 (.var 2)), (.int .i64 (.var 3)), (.int .i64 (.var 4)), (.int .i64 (.var 5)), (.int .i64 (.var 6)), (.int .i64 (.var 7)), (.int .i64 (.var 8)), (.int .i64 (.var 9))])], [], (.tuple [(.int .i64 (.var 10)), (.int .i64 (.var 11))]), []⟩
def etalonref06_CheckReading_s : Sig := ⟨8, ⟨10, 0, 0⟩, ⟨1, 0, 0⟩, [(.agg [(.strn (.var 0)), (.int .i64 (.var 1)), (.int .i64 (.var 2)), (.int .i64 (.var 3)), (.int .i64 (.var 4)), (.int .i64 (.var 5)), (.int .i64 (.var 6)), (.int .i64 (.var 7)), (.int .i64 (.var 8)), (.int .i64 (.var 9))])], [], (.int .i64 (.var 10)), []⟩
def etalonref06_squares_s : Sig := ⟨31, ⟨10, 0, 0⟩, ⟨2, 0, 0⟩, [(.agg [(.strn (.var 0)), (.int .i64 (.var 1)), (.int .i64 (.var 2)), (.int .i64 (.var 3)), (.int .i64 (.var 4)), (.int .i64 (.var 5)), (.int .i64 (.var 6)), (.int .i64 (.var 7)), (.int .i64 (.var 8)), (.int .i64 (.var 9))])], [], (.tuple [(.int .i64 (.var 10)), (.int .i64 (.var 11))]), []⟩
def etalonref06_DegreeOf_s : Sig := ⟨10, ⟨10, 0, 0⟩, ⟨2, 0, 0⟩, [(.agg [(.strn (.var 0)), (.int .i64 (.var 1)), (.int .i64 (.var 2)), (.int .i64 (.var 3)), (.int .i64 (.var 4)), (.int .i64 (.var 5)), (.int .i64 (.var 6)), (.int .i64 (.var 7)), (.int .i64 (.var 8)), (.int .i64 (.var 9))])], [], (.agg [(.int .i64 (.var 10)), (.int .i64 (.var 11))]), []⟩
def etalonref06_Possible_s : Sig := ⟨11, ⟨10, 0, 0⟩, ⟨1, 0, 0⟩, [(.agg [(.strn (.var 0)), (.int .i64 (.var 1)), (.int .i64 (.var 2)), (.int .i64 (.var 3)), (.int .i64 (.var 4)), (.int .i64 (.var 5)), (.int .i64 (.var 6)), (.int .i64 (.var 7)), (.int .i64 (.var 8)), (.int .i64 (.var 9))])], [], (.int .i64 (.var 10)), []⟩

def qu_t : Tr :=
  (.call whole_Lower_s ⟨[(.var 0), (.lit 1), (.var 1)], [], []⟩ ⟨[(.var 0), (.lit 1), (.var 1), (.var 2)], [], []⟩ ⟨67, [(.int .i64 (.var 0)), (.int .i64 (.lit 1)), (.int .i64 (.var 1))], [], [none], (.int .i64 (.var 2)), []⟩
  (.call whole_Upper_s ⟨[(.var 0), (.lit 1), (.var 1)], [], []⟩ ⟨[(.var 0), (.lit 1), (.var 1), (.var 3)], [], []⟩ ⟨68, [(.int .i64 (.var 0)), (.int .i64 (.lit 1)), (.int .i64 (.var 1))], [], [none], (.int .i64 (.var 3)), []⟩
  (.ret ⟨[(.var 2), (.var 3)], [], []⟩ [])))
theorem qu {x0 x1 : Int} (r0 : 0 ≤ x0 ∧ x0 ≤ 4398046511104) (r1 : 1048576 ≤ x1 ∧ x1 ≤ 1048576) {R : Int → Int → Prop}
  (H : (∃ v2 : Int, Spec Tryz.prog whole_Lower_s ⟨[x0, 1, x1], [], []⟩ [v2] [] [] ∧
   (∃ v3 : Int, Spec Tryz.prog whole_Upper_s ⟨[x0, 1, x1], [], []⟩ [v3] [] [] ∧
   R (v2) (v3)))) :
    ∃ v0 : Int, ∃ v1 : Int, R v0 v1 ∧ Spec Tryz.prog span_Quotient_s ⟨[x0, x1], [], []⟩ [v0, v1] [] [] :=
  Eq.mp (by kernel_rfl) (exV_of (K := fun d => app3 span_Quotient_s.out R d ∧ Spec Tryz.prog span_Quotient_s ⟨[x0, x1], [], []⟩ d.1 d.2.1 d.2.2) (tree_at mixed names S1_ok (S := S1 Tryz.prog) (lf := 100000) (d := 60) span_Quotient_s qu_t { ivs := [(0, 0, 4398046511104), (1, 1048576, 1048576)], aivs := [] } ⟨[x0, x1], [], []⟩ rfl (by kernel_rfl) (by kernel_rfl) (by kernel_rfl) ⟨(fc r0 (fc r1 fz)), fz, fz, fz⟩ (R := fun d => app3 span_Quotient_s.out R d) (Eq.mp (by kernel_rfl) H)))

def sq_t : Tr :=
  (.ite (.icmp .leq (.lit 0) (.var 0))
  (.ret ⟨[(.bin .minI (.bin .mulI (.var 0) (.var 0)) (.bin .mulI (.var 1) (.var 1))), (.bin .maxI (.bin .mulI (.var 0) (.var 0)) (.bin .mulI (.var 1) (.var 1)))], [], []⟩ [])
  (.ite (.icmp .leq (.var 1) (.lit 0))
   (.ret ⟨[(.bin .minI (.bin .mulI (.var 0) (.var 0)) (.bin .mulI (.var 1) (.var 1))), (.bin .maxI (.bin .mulI (.var 0) (.var 0)) (.bin .mulI (.var 1) (.var 1)))], [], []⟩ [])
   (.ret ⟨[(.lit 0), (.bin .maxI (.bin .mulI (.var 0) (.var 0)) (.bin .mulI (.var 1) (.var 1)))], [], []⟩ [])))
theorem sq {x0 x1 : Int} (r0 : (-1048576) ≤ x0 ∧ x0 ≤ 1048576) (r1 : (-1048576) ≤ x1 ∧ x1 ≤ 1048576) {R : Int → Int → Prop}
  (H : ((decide ((0 : Int) ≤ x0) = true → R ((if ((x1 * x1) : Int) < (x0 * x0) then (x1 * x1) else (x0 * x0))) ((if ((x1 * x1) : Int) > (x0 * x0) then (x1 * x1) else (x0 * x0)))) ∧
   (decide ((0 : Int) ≤ x0) = false → ((decide ((x1 : Int) ≤ 0) = true → R ((if ((x1 * x1) : Int) < (x0 * x0) then (x1 * x1) else (x0 * x0))) ((if ((x1 * x1) : Int) > (x0 * x0) then (x1 * x1) else (x0 * x0)))) ∧
    (decide ((x1 : Int) ≤ 0) = false → R (0) ((if ((x1 * x1) : Int) > (x0 * x0) then (x1 * x1) else (x0 * x0)))))))) :
    ∃ v0 : Int, ∃ v1 : Int, R v0 v1 ∧ Spec Tryz.prog meter_square_s ⟨[x0, x1], [], []⟩ [v0, v1] [] [] :=
  Eq.mp (by kernel_rfl) (exV_of (K := fun d => app3 meter_square_s.out R d ∧ Spec Tryz.prog meter_square_s ⟨[x0, x1], [], []⟩ d.1 d.2.1 d.2.2) (tree_at mixed names S1_ok (S := S1 Tryz.prog) (lf := 100000) (d := 60) meter_square_s sq_t { ivs := [(0, (-1048576), 1048576), (1, (-1048576), 1048576)], aivs := [] } ⟨[x0, x1], [], []⟩ rfl (by kernel_rfl) (by kernel_rfl) (by kernel_rfl) ⟨(fc r0 (fc r1 fz)), fz, fz, fz⟩ (R := fun d => app3 meter_square_s.out R d) (Eq.mp (by kernel_rfl) H)))

def dg_t : Tr :=
  (.call meter_CheckReading_s ⟨[(.var 0), (.var 1), (.var 2), (.var 3), (.var 4), (.var 5), (.var 6), (.var 7), (.var 8), (.var 9)], [], []⟩ ⟨[(.var 0), (.var 1), (.var 2), (.var 3), (.var 4), (.var 5), (.var 6), (.var 7), (.var 8), (.var 9), (.var 10)], [], []⟩ ⟨9, [(.agg [(.strn (.var 0)), (.int .i64 (.var 1)), (.int .i64 (.var 2)), (.int .i64 (.var 3)), (.int .i64 (.var 4)), (.int .i64 (.var 5)), (.int .i64 (.var 6)), (.int .i64 (.var 7)), (.int .i64 (.var 8)), (.int .i64 (.var 9))])], [], [none, none], (.int .i64 (.var 10)), []⟩
  (.ite (.icmp .eql (.var 10) (.lit 0))
  (.call meter_square_s ⟨[(.var 4), (.var 5)], [], []⟩ ⟨[(.var 4), (.var 5), (.var 11), (.var 12)], [], []⟩ ⟨51, [(.agg [(.int .i64 (.var 4)), (.int .i64 (.var 5))])], [], [none, none, none, none], (.agg [(.int .i64 (.var 11)), (.int .i64 (.var 12))]), []⟩
   (.rng 11 0 1099511627776 (.rng 12 0 1099511627776 (.call meter_square_s ⟨[(.var 6), (.var 7)], [], []⟩ ⟨[(.var 6), (.var 7), (.var 13), (.var 14)], [], []⟩ ⟨51, [(.agg [(.int .i64 (.var 6)), (.int .i64 (.var 7))])], [], [none, none, none, none], (.agg [(.int .i64 (.var 13)), (.int .i64 (.var 14))]), []⟩
   (.rng 13 0 1099511627776 (.rng 14 0 1099511627776 (.call meter_square_s ⟨[(.var 8), (.var 9)], [], []⟩ ⟨[(.var 8), (.var 9), (.var 15), (.var 16)], [], []⟩ ⟨51, [(.agg [(.int .i64 (.var 8)), (.int .i64 (.var 9))])], [], [none, none, none, none], (.agg [(.int .i64 (.var 15)), (.int .i64 (.var 16))]), []⟩
   (.rng 15 0 1099511627776 (.rng 16 0 1099511627776 (.call span_Quotient_s ⟨[(.bin .addI (.bin .addI (.var 11) (.var 13)) (.var 15)), (.lit 1048576)], [], []⟩ ⟨[(.bin .addI (.bin .addI (.var 11) (.var 13)) (.var 15)), (.lit 1048576), (.var 17), (.var 18)], [], []⟩ ⟨49, [(.int .i64 (.bin .addI (.bin .addI (.var 11) (.var 13)) (.var 15))), (.int .i64 (.lit 1048576))], [], [none, none, none, none], (.agg [(.int .i64 (.var 17)), (.int .i64 (.var 18))]), []⟩
   (.call span_Quotient_s ⟨[(.bin .addI (.bin .addI (.var 12) (.var 14)) (.var 16)), (.lit 1048576)], [], []⟩ ⟨[(.bin .addI (.bin .addI (.var 12) (.var 14)) (.var 16)), (.lit 1048576), (.var 19), (.var 20)], [], []⟩ ⟨49, [(.int .i64 (.bin .addI (.bin .addI (.var 12) (.var 14)) (.var 16))), (.int .i64 (.lit 1048576))], [], [none, none, none, none], (.agg [(.int .i64 (.var 19)), (.int .i64 (.var 20))]), []⟩
   (.ret ⟨[(.bin .minI (.var 17) (.var 19)), (.bin .maxI (.var 18) (.var 20)), (.lit 0)], [], []⟩ []))))))))))))
  (.ret ⟨[(.lit 0), (.lit 0), (.var 10)], [], []⟩ [])))
theorem dg {x0 x1 x2 x3 x4 x5 x6 x7 x8 x9 : Int} (r1 : (-9223372036854775808) ≤ x1 ∧ x1 ≤ 9223372036854775807) (r2 : (-9223372036854775808) ≤ x2 ∧ x2 ≤ 9223372036854775807) (r3 : (-9223372036854775808) ≤ x3 ∧ x3 ≤ 9223372036854775807) (r4 : (-1048576) ≤ x4 ∧ x4 ≤ 1048576) (r5 : (-1048576) ≤ x5 ∧ x5 ≤ 1048576) (r6 : (-1048576) ≤ x6 ∧ x6 ≤ 1048576) (r7 : (-1048576) ≤ x7 ∧ x7 ≤ 1048576) (r8 : (-1048576) ≤ x8 ∧ x8 ≤ 1048576) (r9 : (-1048576) ≤ x9 ∧ x9 ≤ 1048576) {R : Int → Int → Int → Prop}
  (H : (∃ v10 : Int, Spec Tryz.prog meter_CheckReading_s ⟨[x0, x1, x2, x3, x4, x5, x6, x7, x8, x9], [], []⟩ [v10] [] [] ∧
   ((((v10 : Int) == 0) = true → (∃ v11 : Int, ∃ v12 : Int, Spec Tryz.prog meter_square_s ⟨[x4, x5], [], []⟩ [v11, v12] [] [] ∧
    ((0 ≤ (v11 : Int) ∧ (v11 : Int) ≤ 1099511627776) ∧ ((0 ≤ (v12 : Int) ∧ (v12 : Int) ≤ 1099511627776) ∧ (∃ v13 : Int, ∃ v14 : Int, Spec Tryz.prog meter_square_s ⟨[x6, x7], [], []⟩ [v13, v14] [] [] ∧
    ((0 ≤ (v13 : Int) ∧ (v13 : Int) ≤ 1099511627776) ∧ ((0 ≤ (v14 : Int) ∧ (v14 : Int) ≤ 1099511627776) ∧ (∃ v15 : Int, ∃ v16 : Int, Spec Tryz.prog meter_square_s ⟨[x8, x9], [], []⟩ [v15, v16] [] [] ∧
    ((0 ≤ (v15 : Int) ∧ (v15 : Int) ≤ 1099511627776) ∧ ((0 ≤ (v16 : Int) ∧ (v16 : Int) ≤ 1099511627776) ∧ (∃ v17 : Int, ∃ v18 : Int, Spec Tryz.prog span_Quotient_s ⟨[((v11 + v13) + v15), 1048576], [], []⟩ [v17, v18] [] [] ∧
    (∃ v19 : Int, ∃ v20 : Int, Spec Tryz.prog span_Quotient_s ⟨[((v12 + v14) + v16), 1048576], [], []⟩ [v19, v20] [] [] ∧
    R ((if (v19 : Int) < v17 then v19 else v17)) ((if (v20 : Int) > v18 then v20 else v18)) (0))))))))))))) ∧
   (((v10 : Int) == 0) = false → R (0) (0) (v10))))) :
    ∃ v0 : Int, ∃ v1 : Int, ∃ v2 : Int, R v0 v1 v2 ∧ Spec Tryz.prog meter_DegreeOf_s ⟨[x0, x1, x2, x3, x4, x5, x6, x7, x8, x9], [], []⟩ [v0, v1, v2] [] [] :=
  Eq.mp (by kernel_rfl) (exV_of (K := fun d => app3 meter_DegreeOf_s.out R d ∧ Spec Tryz.prog meter_DegreeOf_s ⟨[x0, x1, x2, x3, x4, x5, x6, x7, x8, x9], [], []⟩ d.1 d.2.1 d.2.2) (tree_at mixed names S1_ok (S := S1 Tryz.prog) (lf := 100000) (d := 60) meter_DegreeOf_s dg_t { ivs := [(1, (-9223372036854775808), 9223372036854775807), (2, (-9223372036854775808), 9223372036854775807), (3, (-9223372036854775808), 9223372036854775807), (4, (-1048576), 1048576), (5, (-1048576), 1048576), (6, (-1048576), 1048576), (7, (-1048576), 1048576), (8, (-1048576), 1048576), (9, (-1048576), 1048576)], aivs := [] } ⟨[x0, x1, x2, x3, x4, x5, x6, x7, x8, x9], [], []⟩ rfl (by kernel_rfl) (by kernel_rfl) (by kernel_rfl) ⟨(fc r1 (fc r2 (fc r3 (fc r4 (fc r5 (fc r6 (fc r7 (fc r8 (fc r9 fz))))))))), fz, fz, fz⟩ (R := fun d => app3 meter_DegreeOf_s.out R d) (Eq.mp (by kernel_rfl) H)))

def ps_t : Tr :=
  (.call meter_CheckReading_s ⟨[(.var 0), (.var 1), (.var 2), (.var 3), (.var 4), (.var 5), (.var 6), (.var 7), (.var 8), (.var 9)], [], []⟩ ⟨[(.var 0), (.var 1), (.var 2), (.var 3), (.var 4), (.var 5), (.var 6), (.var 7), (.var 8), (.var 9), (.var 10)], [], []⟩ ⟨9, [(.agg [(.strn (.var 0)), (.int .i64 (.var 1)), (.int .i64 (.var 2)), (.int .i64 (.var 3)), (.int .i64 (.var 4)), (.int .i64 (.var 5)), (.int .i64 (.var 6)), (.int .i64 (.var 7)), (.int .i64 (.var 8)), (.int .i64 (.var 9))])], [], [none], (.int .i64 (.var 10)), []⟩
  (.ite (.icmp .eql (.var 10) (.lit 0))
  (.call meter_square_s ⟨[(.var 4), (.var 5)], [], []⟩ ⟨[(.var 4), (.var 5), (.var 11), (.var 12)], [], []⟩ ⟨51, [(.agg [(.int .i64 (.var 4)), (.int .i64 (.var 5))])], [], [none, none, none], (.agg [(.int .i64 (.var 11)), (.int .i64 (.var 12))]), []⟩
   (.rng 11 0 1099511627776 (.rng 12 0 1099511627776 (.call meter_square_s ⟨[(.var 6), (.var 7)], [], []⟩ ⟨[(.var 6), (.var 7), (.var 13), (.var 14)], [], []⟩ ⟨51, [(.agg [(.int .i64 (.var 6)), (.int .i64 (.var 7))])], [], [none, none, none], (.agg [(.int .i64 (.var 13)), (.int .i64 (.var 14))]), []⟩
   (.rng 13 0 1099511627776 (.rng 14 0 1099511627776 (.call meter_square_s ⟨[(.var 8), (.var 9)], [], []⟩ ⟨[(.var 8), (.var 9), (.var 15), (.var 16)], [], []⟩ ⟨51, [(.agg [(.int .i64 (.var 8)), (.int .i64 (.var 9))])], [], [none, none, none], (.agg [(.int .i64 (.var 15)), (.int .i64 (.var 16))]), []⟩
   (.rng 15 0 1099511627776 (.rng 16 0 1099511627776 (.ite (.icmp .leq (.bin .addI (.bin .addI (.var 11) (.var 13)) (.var 15)) (.lit 1099511627776))
   (.ite (.icmp .leq (.bin .addI (.bin .addI (.var 12) (.var 14)) (.var 16)) (.lit 1099511627776))
    (.ret ⟨[(.lit 2), (.lit 0)], [], []⟩ [])
    (.ret ⟨[(.lit 1), (.lit 0)], [], []⟩ []))
   (.ret ⟨[(.lit 0), (.lit 0)], [], []⟩ [])))))))))))
  (.ret ⟨[(.lit 0), (.var 10)], [], []⟩ [])))
theorem ps {x0 x1 x2 x3 x4 x5 x6 x7 x8 x9 : Int} (r1 : (-9223372036854775808) ≤ x1 ∧ x1 ≤ 9223372036854775807) (r2 : (-9223372036854775808) ≤ x2 ∧ x2 ≤ 9223372036854775807) (r3 : (-9223372036854775808) ≤ x3 ∧ x3 ≤ 9223372036854775807) (r4 : (-1048576) ≤ x4 ∧ x4 ≤ 1048576) (r5 : (-1048576) ≤ x5 ∧ x5 ≤ 1048576) (r6 : (-1048576) ≤ x6 ∧ x6 ≤ 1048576) (r7 : (-1048576) ≤ x7 ∧ x7 ≤ 1048576) (r8 : (-1048576) ≤ x8 ∧ x8 ≤ 1048576) (r9 : (-1048576) ≤ x9 ∧ x9 ≤ 1048576) {R : Int → Int → Prop}
  (H : (∃ v10 : Int, Spec Tryz.prog meter_CheckReading_s ⟨[x0, x1, x2, x3, x4, x5, x6, x7, x8, x9], [], []⟩ [v10] [] [] ∧
   ((((v10 : Int) == 0) = true → (∃ v11 : Int, ∃ v12 : Int, Spec Tryz.prog meter_square_s ⟨[x4, x5], [], []⟩ [v11, v12] [] [] ∧
    ((0 ≤ (v11 : Int) ∧ (v11 : Int) ≤ 1099511627776) ∧ ((0 ≤ (v12 : Int) ∧ (v12 : Int) ≤ 1099511627776) ∧ (∃ v13 : Int, ∃ v14 : Int, Spec Tryz.prog meter_square_s ⟨[x6, x7], [], []⟩ [v13, v14] [] [] ∧
    ((0 ≤ (v13 : Int) ∧ (v13 : Int) ≤ 1099511627776) ∧ ((0 ≤ (v14 : Int) ∧ (v14 : Int) ≤ 1099511627776) ∧ (∃ v15 : Int, ∃ v16 : Int, Spec Tryz.prog meter_square_s ⟨[x8, x9], [], []⟩ [v15, v16] [] [] ∧
    ((0 ≤ (v15 : Int) ∧ (v15 : Int) ≤ 1099511627776) ∧ ((0 ≤ (v16 : Int) ∧ (v16 : Int) ≤ 1099511627776) ∧ ((decide ((((v11 + v13) + v15) : Int) ≤ 1099511627776) = true → ((decide ((((v12 + v14) + v16) : Int) ≤ 1099511627776) = true → R (2) (0)) ∧
     (decide ((((v12 + v14) + v16) : Int) ≤ 1099511627776) = false → R (1) (0)))) ∧
    (decide ((((v11 + v13) + v15) : Int) ≤ 1099511627776) = false → R (0) (0))))))))))))) ∧
   (((v10 : Int) == 0) = false → R (0) (v10))))) :
    ∃ v0 : Int, ∃ v1 : Int, R v0 v1 ∧ Spec Tryz.prog meter_Possible_s ⟨[x0, x1, x2, x3, x4, x5, x6, x7, x8, x9], [], []⟩ [v0, v1] [] [] :=
  Eq.mp (by kernel_rfl) (exV_of (K := fun d => app3 meter_Possible_s.out R d ∧ Spec Tryz.prog meter_Possible_s ⟨[x0, x1, x2, x3, x4, x5, x6, x7, x8, x9], [], []⟩ d.1 d.2.1 d.2.2) (tree_at mixed names S1_ok (S := S1 Tryz.prog) (lf := 100000) (d := 60) meter_Possible_s ps_t { ivs := [(1, (-9223372036854775808), 9223372036854775807), (2, (-9223372036854775808), 9223372036854775807), (3, (-9223372036854775808), 9223372036854775807), (4, (-1048576), 1048576), (5, (-1048576), 1048576), (6, (-1048576), 1048576), (7, (-1048576), 1048576), (8, (-1048576), 1048576), (9, (-1048576), 1048576)], aivs := [] } ⟨[x0, x1, x2, x3, x4, x5, x6, x7, x8, x9], [], []⟩ rfl (by kernel_rfl) (by kernel_rfl) (by kernel_rfl) ⟨(fc r1 (fc r2 (fc r3 (fc r4 (fc r5 (fc r6 (fc r7 (fc r8 (fc r9 fz))))))))), fz, fz, fz⟩ (R := fun d => app3 meter_Possible_s.out R d) (Eq.mp (by kernel_rfl) H)))

def dgn_t : Tr :=
  (.call meter_CheckReading_s ⟨[(.var 0), (.var 1), (.var 2), (.var 3), (.var 4), (.var 5), (.var 6), (.var 7), (.var 8), (.var 9)], [], []⟩ ⟨[(.var 0), (.var 1), (.var 2), (.var 3), (.var 4), (.var 5), (.var 6), (.var 7), (.var 8), (.var 9), (.var 10)], [], []⟩ ⟨9, [(.agg [(.strn (.var 0)), (.int .i64 (.var 1)), (.int .i64 (.var 2)), (.int .i64 (.var 3)), (.int .i64 (.var 4)), (.int .i64 (.var 5)), (.int .i64 (.var 6)), (.int .i64 (.var 7)), (.int .i64 (.var 8)), (.int .i64 (.var 9))])], [], [none, none], (.int .i64 (.var 10)), []⟩
  (.ite (.icmp .eql (.var 10) (.lit 0))
  .nil
  (.ret ⟨[(.lit 0), (.lit 0), (.var 10)], [], []⟩ [])))
theorem dgn {x0 x1 x2 x3 x4 x5 x6 x7 x8 x9 : Int} (r1 : (-9223372036854775808) ≤ x1 ∧ x1 ≤ 9223372036854775807) (r2 : (-9223372036854775808) ≤ x2 ∧ x2 ≤ 9223372036854775807) (r3 : (-9223372036854775808) ≤ x3 ∧ x3 ≤ 9223372036854775807) (r4 : (-9223372036854775808) ≤ x4 ∧ x4 ≤ 9223372036854775807) (r5 : (-9223372036854775808) ≤ x5 ∧ x5 ≤ 9223372036854775807) (r6 : (-9223372036854775808) ≤ x6 ∧ x6 ≤ 9223372036854775807) (r7 : (-9223372036854775808) ≤ x7 ∧ x7 ≤ 9223372036854775807) (r8 : (-9223372036854775808) ≤ x8 ∧ x8 ≤ 9223372036854775807) (r9 : (-9223372036854775808) ≤ x9 ∧ x9 ≤ 9223372036854775807) {R : Int → Int → Int → Prop}
  (H : (∃ v10 : Int, Spec Tryz.prog meter_CheckReading_s ⟨[x0, x1, x2, x3, x4, x5, x6, x7, x8, x9], [], []⟩ [v10] [] [] ∧
   ((((v10 : Int) == 0) = true → False) ∧
   (((v10 : Int) == 0) = false → R (0) (0) (v10))))) :
    ∃ v0 : Int, ∃ v1 : Int, ∃ v2 : Int, R v0 v1 v2 ∧ Spec Tryz.prog meter_DegreeOf_s ⟨[x0, x1, x2, x3, x4, x5, x6, x7, x8, x9], [], []⟩ [v0, v1, v2] [] [] :=
  Eq.mp (by kernel_rfl) (exV_of (K := fun d => app3 meter_DegreeOf_s.out R d ∧ Spec Tryz.prog meter_DegreeOf_s ⟨[x0, x1, x2, x3, x4, x5, x6, x7, x8, x9], [], []⟩ d.1 d.2.1 d.2.2) (tree_at mixed names S1_ok (S := S1 Tryz.prog) (lf := 100000) (d := 60) meter_DegreeOf_s dgn_t { ivs := [(1, (-9223372036854775808), 9223372036854775807), (2, (-9223372036854775808), 9223372036854775807), (3, (-9223372036854775808), 9223372036854775807), (4, (-9223372036854775808), 9223372036854775807), (5, (-9223372036854775808), 9223372036854775807), (6, (-9223372036854775808), 9223372036854775807), (7, (-9223372036854775808), 9223372036854775807), (8, (-9223372036854775808), 9223372036854775807), (9, (-9223372036854775808), 9223372036854775807)], aivs := [] } ⟨[x0, x1, x2, x3, x4, x5, x6, x7, x8, x9], [], []⟩ rfl (by kernel_rfl) (by kernel_rfl) (by kernel_rfl) ⟨(fc r1 (fc r2 (fc r3 (fc r4 (fc r5 (fc r6 (fc r7 (fc r8 (fc r9 fz))))))))), fz, fz, fz⟩ (R := fun d => app3 meter_DegreeOf_s.out R d) (Eq.mp (by kernel_rfl) H)))

def psn_t : Tr :=
  (.call meter_CheckReading_s ⟨[(.var 0), (.var 1), (.var 2), (.var 3), (.var 4), (.var 5), (.var 6), (.var 7), (.var 8), (.var 9)], [], []⟩ ⟨[(.var 0), (.var 1), (.var 2), (.var 3), (.var 4), (.var 5), (.var 6), (.var 7), (.var 8), (.var 9), (.var 10)], [], []⟩ ⟨9, [(.agg [(.strn (.var 0)), (.int .i64 (.var 1)), (.int .i64 (.var 2)), (.int .i64 (.var 3)), (.int .i64 (.var 4)), (.int .i64 (.var 5)), (.int .i64 (.var 6)), (.int .i64 (.var 7)), (.int .i64 (.var 8)), (.int .i64 (.var 9))])], [], [none], (.int .i64 (.var 10)), []⟩
  (.ite (.icmp .eql (.var 10) (.lit 0))
  .nil
  (.ret ⟨[(.lit 0), (.var 10)], [], []⟩ [])))
theorem psn {x0 x1 x2 x3 x4 x5 x6 x7 x8 x9 : Int} (r1 : (-9223372036854775808) ≤ x1 ∧ x1 ≤ 9223372036854775807) (r2 : (-9223372036854775808) ≤ x2 ∧ x2 ≤ 9223372036854775807) (r3 : (-9223372036854775808) ≤ x3 ∧ x3 ≤ 9223372036854775807) (r4 : (-9223372036854775808) ≤ x4 ∧ x4 ≤ 9223372036854775807) (r5 : (-9223372036854775808) ≤ x5 ∧ x5 ≤ 9223372036854775807) (r6 : (-9223372036854775808) ≤ x6 ∧ x6 ≤ 9223372036854775807) (r7 : (-9223372036854775808) ≤ x7 ∧ x7 ≤ 9223372036854775807) (r8 : (-9223372036854775808) ≤ x8 ∧ x8 ≤ 9223372036854775807) (r9 : (-9223372036854775808) ≤ x9 ∧ x9 ≤ 9223372036854775807) {R : Int → Int → Prop}
  (H : (∃ v10 : Int, Spec Tryz.prog meter_CheckReading_s ⟨[x0, x1, x2, x3, x4, x5, x6, x7, x8, x9], [], []⟩ [v10] [] [] ∧
   ((((v10 : Int) == 0) = true → False) ∧
   (((v10 : Int) == 0) = false → R (0) (v10))))) :
    ∃ v0 : Int, ∃ v1 : Int, R v0 v1 ∧ Spec Tryz.prog meter_Possible_s ⟨[x0, x1, x2, x3, x4, x5, x6, x7, x8, x9], [], []⟩ [v0, v1] [] [] :=
  Eq.mp (by kernel_rfl) (exV_of (K := fun d => app3 meter_Possible_s.out R d ∧ Spec Tryz.prog meter_Possible_s ⟨[x0, x1, x2, x3, x4, x5, x6, x7, x8, x9], [], []⟩ d.1 d.2.1 d.2.2) (tree_at mixed names S1_ok (S := S1 Tryz.prog) (lf := 100000) (d := 60) meter_Possible_s psn_t { ivs := [(1, (-9223372036854775808), 9223372036854775807), (2, (-9223372036854775808), 9223372036854775807), (3, (-9223372036854775808), 9223372036854775807), (4, (-9223372036854775808), 9223372036854775807), (5, (-9223372036854775808), 9223372036854775807), (6, (-9223372036854775808), 9223372036854775807), (7, (-9223372036854775808), 9223372036854775807), (8, (-9223372036854775808), 9223372036854775807), (9, (-9223372036854775808), 9223372036854775807)], aivs := [] } ⟨[x0, x1, x2, x3, x4, x5, x6, x7, x8, x9], [], []⟩ rfl (by kernel_rfl) (by kernel_rfl) (by kernel_rfl) ⟨(fc r1 (fc r2 (fc r3 (fc r4 (fc r5 (fc r6 (fc r7 (fc r8 (fc r9 fz))))))))), fz, fz, fz⟩ (R := fun d => app3 meter_Possible_s.out R d) (Eq.mp (by kernel_rfl) H)))

def rcr_t : Tr :=
  (.call etalonbase_IsName_s ⟨[(.var 0)], [], []⟩ ⟨[(.var 0)], [(.var 0)], []⟩ ⟨54, [(.strn (.var 0))], [], [none, none], (.bool (.var 0)), []⟩
  (.ite (.var 0)
  (.ite (.icmp .leq (.lit 1000) (.var 1))
   (.ite (.icmp .leq (.var 1) (.lit 200000))
    (.ite (.icmp .leq (.lit 5000) (.var 2))
     (.ite (.icmp .leq (.var 2) (.lit 80000))
      (.ite (.icmp .leq (.lit 0) (.var 3))
       (.ite (.icmp .leq (.var 3) (.lit 9999))
        (.ite (.icmp .leq (.lit (-1048576)) (.var 4))
         (.ite (.icmp .leq (.var 4) (.lit 1048576))
          (.ite (.icmp .leq (.lit (-1048576)) (.var 5))
           (.ite (.icmp .leq (.var 5) (.lit 1048576))
            (.ite (.icmp .leq (.var 4) (.var 5))
             (.ite (.icmp .leq (.lit (-1048576)) (.var 6))
              (.ite (.icmp .leq (.var 6) (.lit 1048576))
               (.ite (.icmp .leq (.lit (-1048576)) (.var 7))
                (.ite (.icmp .leq (.var 7) (.lit 1048576))
                 (.ite (.icmp .leq (.var 6) (.var 7))
                  (.ite (.icmp .leq (.lit (-1048576)) (.var 8))
                   (.ite (.icmp .leq (.var 8) (.lit 1048576))
                    (.ite (.icmp .leq (.lit (-1048576)) (.var 9))
                     (.ite (.icmp .leq (.var 9) (.lit 1048576))
                      (.ite (.icmp .leq (.var 8) (.var 9))
                       (.ret ⟨[(.lit 0)], [], []⟩ [])
                       (.ret ⟨[(.lit 10)], [], []⟩ []))
                      (.ret ⟨[(.lit 2)], [], []⟩ []))
                     (.ret ⟨[(.lit 2)], [], []⟩ []))
                    (.ret ⟨[(.lit 2)], [], []⟩ []))
                   (.ret ⟨[(.lit 2)], [], []⟩ []))
                  (.ret ⟨[(.lit 10)], [], []⟩ []))
                 (.ret ⟨[(.lit 2)], [], []⟩ []))
                (.ret ⟨[(.lit 2)], [], []⟩ []))
               (.ret ⟨[(.lit 2)], [], []⟩ []))
              (.ret ⟨[(.lit 2)], [], []⟩ []))
             (.ret ⟨[(.lit 10)], [], []⟩ []))
            (.ret ⟨[(.lit 2)], [], []⟩ []))
           (.ret ⟨[(.lit 2)], [], []⟩ []))
          (.ret ⟨[(.lit 2)], [], []⟩ []))
         (.ret ⟨[(.lit 2)], [], []⟩ []))
        (.ret ⟨[(.lit 2)], [], []⟩ []))
       (.ret ⟨[(.lit 2)], [], []⟩ []))
      (.ret ⟨[(.lit 2)], [], []⟩ []))
     (.ret ⟨[(.lit 2)], [], []⟩ []))
    (.ret ⟨[(.lit 2)], [], []⟩ []))
   (.ret ⟨[(.lit 2)], [], []⟩ []))
  (.ret ⟨[(.lit 3)], [], []⟩ [])))
theorem rcr {x0 x1 x2 x3 x4 x5 x6 x7 x8 x9 : Int} (r1 : (-9223372036854775808) ≤ x1 ∧ x1 ≤ 9223372036854775807) (r2 : (-9223372036854775808) ≤ x2 ∧ x2 ≤ 9223372036854775807) (r3 : (-9223372036854775808) ≤ x3 ∧ x3 ≤ 9223372036854775807) (r4 : (-9223372036854775808) ≤ x4 ∧ x4 ≤ 9223372036854775807) (r5 : (-9223372036854775808) ≤ x5 ∧ x5 ≤ 9223372036854775807) (r6 : (-9223372036854775808) ≤ x6 ∧ x6 ≤ 9223372036854775807) (r7 : (-9223372036854775808) ≤ x7 ∧ x7 ≤ 9223372036854775807) (r8 : (-9223372036854775808) ≤ x8 ∧ x8 ≤ 9223372036854775807) (r9 : (-9223372036854775808) ≤ x9 ∧ x9 ≤ 9223372036854775807) {R : Int → Prop}
  (H : (∃ u0 : Bool, Spec Tryz.prog etalonbase_IsName_s ⟨[x0], [], []⟩ [] [u0] [] ∧
   ((u0 = true → ((decide ((1000 : Int) ≤ x1) = true → ((decide ((x1 : Int) ≤ 200000) = true → ((decide ((5000 : Int) ≤ x2) = true → ((decide ((x2 : Int) ≤ 80000) = true → ((decide ((0 : Int) ≤ x3) = true → ((decide ((x3 : Int) ≤ 9999) = true → ((decide (((-1048576) : Int) ≤ x4) = true → ((decide ((x4 : Int) ≤ 1048576) = true → ((decide (((-1048576) : Int) ≤ x5) = true → ((decide ((x5 : Int) ≤ 1048576) = true → ((decide ((x4 : Int) ≤ x5) = true → ((decide (((-1048576) : Int) ≤ x6) = true → ((decide ((x6 : Int) ≤ 1048576) = true → ((decide (((-1048576) : Int) ≤ x7) = true → ((decide ((x7 : Int) ≤ 1048576) = true → ((decide ((x6 : Int) ≤ x7) = true → ((decide (((-1048576) : Int) ≤ x8) = true → ((decide ((x8 : Int) ≤ 1048576) = true → ((decide (((-1048576) : Int) ≤ x9) = true → ((decide ((x9 : Int) ≤ 1048576) = true → ((decide ((x8 : Int) ≤ x9) = true → R (0)) ∧
                        (decide ((x8 : Int) ≤ x9) = false → R (10)))) ∧
                       (decide ((x9 : Int) ≤ 1048576) = false → R (2)))) ∧
                      (decide (((-1048576) : Int) ≤ x9) = false → R (2)))) ∧
                     (decide ((x8 : Int) ≤ 1048576) = false → R (2)))) ∧
                    (decide (((-1048576) : Int) ≤ x8) = false → R (2)))) ∧
                   (decide ((x6 : Int) ≤ x7) = false → R (10)))) ∧
                  (decide ((x7 : Int) ≤ 1048576) = false → R (2)))) ∧
                 (decide (((-1048576) : Int) ≤ x7) = false → R (2)))) ∧
                (decide ((x6 : Int) ≤ 1048576) = false → R (2)))) ∧
               (decide (((-1048576) : Int) ≤ x6) = false → R (2)))) ∧
              (decide ((x4 : Int) ≤ x5) = false → R (10)))) ∧
             (decide ((x5 : Int) ≤ 1048576) = false → R (2)))) ∧
            (decide (((-1048576) : Int) ≤ x5) = false → R (2)))) ∧
           (decide ((x4 : Int) ≤ 1048576) = false → R (2)))) ∧
          (decide (((-1048576) : Int) ≤ x4) = false → R (2)))) ∧
         (decide ((x3 : Int) ≤ 9999) = false → R (2)))) ∧
        (decide ((0 : Int) ≤ x3) = false → R (2)))) ∧
       (decide ((x2 : Int) ≤ 80000) = false → R (2)))) ∧
      (decide ((5000 : Int) ≤ x2) = false → R (2)))) ∧
     (decide ((x1 : Int) ≤ 200000) = false → R (2)))) ∧
    (decide ((1000 : Int) ≤ x1) = false → R (2)))) ∧
   (u0 = false → R (3))))) :
    ∃ v0 : Int, R v0 ∧ Spec Tryz.prog etalonref06_CheckReading_s ⟨[x0, x1, x2, x3, x4, x5, x6, x7, x8, x9], [], []⟩ [v0] [] [] :=
  Eq.mp (by kernel_rfl) (exV_of (K := fun d => app3 etalonref06_CheckReading_s.out R d ∧ Spec Tryz.prog etalonref06_CheckReading_s ⟨[x0, x1, x2, x3, x4, x5, x6, x7, x8, x9], [], []⟩ d.1 d.2.1 d.2.2) (tree_at mixed names S1_ok (S := S1 Tryz.prog) (lf := 100000) (d := 60) etalonref06_CheckReading_s rcr_t { ivs := [(1, (-9223372036854775808), 9223372036854775807), (2, (-9223372036854775808), 9223372036854775807), (3, (-9223372036854775808), 9223372036854775807), (4, (-9223372036854775808), 9223372036854775807), (5, (-9223372036854775808), 9223372036854775807), (6, (-9223372036854775808), 9223372036854775807), (7, (-9223372036854775808), 9223372036854775807), (8, (-9223372036854775808), 9223372036854775807), (9, (-9223372036854775808), 9223372036854775807)], aivs := [] } ⟨[x0, x1, x2, x3, x4, x5, x6, x7, x8, x9], [], []⟩ rfl (by kernel_rfl) (by kernel_rfl) (by kernel_rfl) ⟨(fc r1 (fc r2 (fc r3 (fc r4 (fc r5 (fc r6 (fc r7 (fc r8 (fc r9 fz))))))))), fz, fz, fz⟩ (R := fun d => app3 etalonref06_CheckReading_s.out R d) (Eq.mp (by kernel_rfl) H)))

def rsq_t : Tr :=
  (.ite (.icmp .leq (.var 4) (.lit 0))
  (.ite (.icmp .leq (.lit 0) (.var 5))
   (.ite (.icmp .leq (.var 6) (.lit 0))
    (.ite (.icmp .leq (.lit 0) (.var 7))
     (.ite (.icmp .leq (.var 8) (.lit 0))
      (.ite (.icmp .leq (.lit 0) (.var 9))
       (.ret ⟨[(.lit 0), (.bin .addI (.bin .addI (.bin .maxI (.bin .mulI (.var 4) (.var 4)) (.bin .mulI (.var 5) (.var 5))) (.bin .maxI (.bin .mulI (.var 6) (.var 6)) (.bin .mulI (.var 7) (.var 7)))) (.bin .maxI (.bin .mulI (.var 8) (.var 8)) (.bin .mulI (.var 9) (.var 9))))], [], []⟩ [])
       (.ret ⟨[(.bin .minI (.bin .mulI (.var 8) (.var 8)) (.bin .mulI (.var 9) (.var 9))), (.bin .addI (.bin .addI (.bin .maxI (.bin .mulI (.var 4) (.var 4)) (.bin .mulI (.var 5) (.var 5))) (.bin .maxI (.bin .mulI (.var 6) (.var 6)) (.bin .mulI (.var 7) (.var 7)))) (.bin .maxI (.bin .mulI (.var 8) (.var 8)) (.bin .mulI (.var 9) (.var 9))))], [], []⟩ []))
      (.ret ⟨[(.bin .minI (.bin .mulI (.var 8) (.var 8)) (.bin .mulI (.var 9) (.var 9))), (.bin .addI (.bin .addI (.bin .maxI (.bin .mulI (.var 4) (.var 4)) (.bin .mulI (.var 5) (.var 5))) (.bin .maxI (.bin .mulI (.var 6) (.var 6)) (.bin .mulI (.var 7) (.var 7)))) (.bin .maxI (.bin .mulI (.var 8) (.var 8)) (.bin .mulI (.var 9) (.var 9))))], [], []⟩ []))
     (.ite (.icmp .leq (.var 8) (.lit 0))
      (.ite (.icmp .leq (.lit 0) (.var 9))
       (.ret ⟨[(.bin .minI (.bin .mulI (.var 6) (.var 6)) (.bin .mulI (.var 7) (.var 7))), (.bin .addI (.bin .addI (.bin .maxI (.bin .mulI (.var 4) (.var 4)) (.bin .mulI (.var 5) (.var 5))) (.bin .maxI (.bin .mulI (.var 6) (.var 6)) (.bin .mulI (.var 7) (.var 7)))) (.bin .maxI (.bin .mulI (.var 8) (.var 8)) (.bin .mulI (.var 9) (.var 9))))], [], []⟩ [])
       (.ret ⟨[(.bin .addI (.bin .minI (.bin .mulI (.var 6) (.var 6)) (.bin .mulI (.var 7) (.var 7))) (.bin .minI (.bin .mulI (.var 8) (.var 8)) (.bin .mulI (.var 9) (.var 9)))), (.bin .addI (.bin .addI (.bin .maxI (.bin .mulI (.var 4) (.var 4)) (.bin .mulI (.var 5) (.var 5))) (.bin .maxI (.bin .mulI (.var 6) (.var 6)) (.bin .mulI (.var 7) (.var 7)))) (.bin .maxI (.bin .mulI (.var 8) (.var 8)) (.bin .mulI (.var 9) (.var 9))))], [], []⟩ []))
      (.ret ⟨[(.bin .addI (.bin .minI (.bin .mulI (.var 6) (.var 6)) (.bin .mulI (.var 7) (.var 7))) (.bin .minI (.bin .mulI (.var 8) (.var 8)) (.bin .mulI (.var 9) (.var 9)))), (.bin .addI (.bin .addI (.bin .maxI (.bin .mulI (.var 4) (.var 4)) (.bin .mulI (.var 5) (.var 5))) (.bin .maxI (.bin .mulI (.var 6) (.var 6)) (.bin .mulI (.var 7) (.var 7)))) (.bin .maxI (.bin .mulI (.var 8) (.var 8)) (.bin .mulI (.var 9) (.var 9))))], [], []⟩ [])))
    (.ite (.icmp .leq (.var 8) (.lit 0))
     (.ite (.icmp .leq (.lit 0) (.var 9))
      (.ret ⟨[(.bin .minI (.bin .mulI (.var 6) (.var 6)) (.bin .mulI (.var 7) (.var 7))), (.bin .addI (.bin .addI (.bin .maxI (.bin .mulI (.var 4) (.var 4)) (.bin .mulI (.var 5) (.var 5))) (.bin .maxI (.bin .mulI (.var 6) (.var 6)) (.bin .mulI (.var 7) (.var 7)))) (.bin .maxI (.bin .mulI (.var 8) (.var 8)) (.bin .mulI (.var 9) (.var 9))))], [], []⟩ [])
      (.ret ⟨[(.bin .addI (.bin .minI (.bin .mulI (.var 6) (.var 6)) (.bin .mulI (.var 7) (.var 7))) (.bin .minI (.bin .mulI (.var 8) (.var 8)) (.bin .mulI (.var 9) (.var 9)))), (.bin .addI (.bin .addI (.bin .maxI (.bin .mulI (.var 4) (.var 4)) (.bin .mulI (.var 5) (.var 5))) (.bin .maxI (.bin .mulI (.var 6) (.var 6)) (.bin .mulI (.var 7) (.var 7)))) (.bin .maxI (.bin .mulI (.var 8) (.var 8)) (.bin .mulI (.var 9) (.var 9))))], [], []⟩ []))
     (.ret ⟨[(.bin .addI (.bin .minI (.bin .mulI (.var 6) (.var 6)) (.bin .mulI (.var 7) (.var 7))) (.bin .minI (.bin .mulI (.var 8) (.var 8)) (.bin .mulI (.var 9) (.var 9)))), (.bin .addI (.bin .addI (.bin .maxI (.bin .mulI (.var 4) (.var 4)) (.bin .mulI (.var 5) (.var 5))) (.bin .maxI (.bin .mulI (.var 6) (.var 6)) (.bin .mulI (.var 7) (.var 7)))) (.bin .maxI (.bin .mulI (.var 8) (.var 8)) (.bin .mulI (.var 9) (.var 9))))], [], []⟩ [])))
   (.ite (.icmp .leq (.var 6) (.lit 0))
    (.ite (.icmp .leq (.lit 0) (.var 7))
     (.ite (.icmp .leq (.var 8) (.lit 0))
      (.ite (.icmp .leq (.lit 0) (.var 9))
       (.ret ⟨[(.bin .minI (.bin .mulI (.var 4) (.var 4)) (.bin .mulI (.var 5) (.var 5))), (.bin .addI (.bin .addI (.bin .maxI (.bin .mulI (.var 4) (.var 4)) (.bin .mulI (.var 5) (.var 5))) (.bin .maxI (.bin .mulI (.var 6) (.var 6)) (.bin .mulI (.var 7) (.var 7)))) (.bin .maxI (.bin .mulI (.var 8) (.var 8)) (.bin .mulI (.var 9) (.var 9))))], [], []⟩ [])
       (.ret ⟨[(.bin .addI (.bin .minI (.bin .mulI (.var 4) (.var 4)) (.bin .mulI (.var 5) (.var 5))) (.bin .minI (.bin .mulI (.var 8) (.var 8)) (.bin .mulI (.var 9) (.var 9)))), (.bin .addI (.bin .addI (.bin .maxI (.bin .mulI (.var 4) (.var 4)) (.bin .mulI (.var 5) (.var 5))) (.bin .maxI (.bin .mulI (.var 6) (.var 6)) (.bin .mulI (.var 7) (.var 7)))) (.bin .maxI (.bin .mulI (.var 8) (.var 8)) (.bin .mulI (.var 9) (.var 9))))], [], []⟩ []))
      (.ret ⟨[(.bin .addI (.bin .minI (.bin .mulI (.var 4) (.var 4)) (.bin .mulI (.var 5) (.var 5))) (.bin .minI (.bin .mulI (.var 8) (.var 8)) (.bin .mulI (.var 9) (.var 9)))), (.bin .addI (.bin .addI (.bin .maxI (.bin .mulI (.var 4) (.var 4)) (.bin .mulI (.var 5) (.var 5))) (.bin .maxI (.bin .mulI (.var 6) (.var 6)) (.bin .mulI (.var 7) (.var 7)))) (.bin .maxI (.bin .mulI (.var 8) (.var 8)) (.bin .mulI (.var 9) (.var 9))))], [], []⟩ []))
     (.ite (.icmp .leq (.var 8) (.lit 0))
      (.ite (.icmp .leq (.lit 0) (.var 9))
       (.ret ⟨[(.bin .addI (.bin .minI (.bin .mulI (.var 4) (.var 4)) (.bin .mulI (.var 5) (.var 5))) (.bin .minI (.bin .mulI (.var 6) (.var 6)) (.bin .mulI (.var 7) (.var 7)))), (.bin .addI (.bin .addI (.bin .maxI (.bin .mulI (.var 4) (.var 4)) (.bin .mulI (.var 5) (.var 5))) (.bin .maxI (.bin .mulI (.var 6) (.var 6)) (.bin .mulI (.var 7) (.var 7)))) (.bin .maxI (.bin .mulI (.var 8) (.var 8)) (.bin .mulI (.var 9) (.var 9))))], [], []⟩ [])
       (.ret ⟨[(.bin .addI (.bin .addI (.bin .minI (.bin .mulI (.var 4) (.var 4)) (.bin .mulI (.var 5) (.var 5))) (.bin .minI (.bin .mulI (.var 6) (.var 6)) (.bin .mulI (.var 7) (.var 7)))) (.bin .minI (.bin .mulI (.var 8) (.var 8)) (.bin .mulI (.var 9) (.var 9)))), (.bin .addI (.bin .addI (.bin .maxI (.bin .mulI (.var 4) (.var 4)) (.bin .mulI (.var 5) (.var 5))) (.bin .maxI (.bin .mulI (.var 6) (.var 6)) (.bin .mulI (.var 7) (.var 7)))) (.bin .maxI (.bin .mulI (.var 8) (.var 8)) (.bin .mulI (.var 9) (.var 9))))], [], []⟩ []))
      (.ret ⟨[(.bin .addI (.bin .addI (.bin .minI (.bin .mulI (.var 4) (.var 4)) (.bin .mulI (.var 5) (.var 5))) (.bin .minI (.bin .mulI (.var 6) (.var 6)) (.bin .mulI (.var 7) (.var 7)))) (.bin .minI (.bin .mulI (.var 8) (.var 8)) (.bin .mulI (.var 9) (.var 9)))), (.bin .addI (.bin .addI (.bin .maxI (.bin .mulI (.var 4) (.var 4)) (.bin .mulI (.var 5) (.var 5))) (.bin .maxI (.bin .mulI (.var 6) (.var 6)) (.bin .mulI (.var 7) (.var 7)))) (.bin .maxI (.bin .mulI (.var 8) (.var 8)) (.bin .mulI (.var 9) (.var 9))))], [], []⟩ [])))
    (.ite (.icmp .leq (.var 8) (.lit 0))
     (.ite (.icmp .leq (.lit 0) (.var 9))
      (.ret ⟨[(.bin .addI (.bin .minI (.bin .mulI (.var 4) (.var 4)) (.bin .mulI (.var 5) (.var 5))) (.bin .minI (.bin .mulI (.var 6) (.var 6)) (.bin .mulI (.var 7) (.var 7)))), (.bin .addI (.bin .addI (.bin .maxI (.bin .mulI (.var 4) (.var 4)) (.bin .mulI (.var 5) (.var 5))) (.bin .maxI (.bin .mulI (.var 6) (.var 6)) (.bin .mulI (.var 7) (.var 7)))) (.bin .maxI (.bin .mulI (.var 8) (.var 8)) (.bin .mulI (.var 9) (.var 9))))], [], []⟩ [])
      (.ret ⟨[(.bin .addI (.bin .addI (.bin .minI (.bin .mulI (.var 4) (.var 4)) (.bin .mulI (.var 5) (.var 5))) (.bin .minI (.bin .mulI (.var 6) (.var 6)) (.bin .mulI (.var 7) (.var 7)))) (.bin .minI (.bin .mulI (.var 8) (.var 8)) (.bin .mulI (.var 9) (.var 9)))), (.bin .addI (.bin .addI (.bin .maxI (.bin .mulI (.var 4) (.var 4)) (.bin .mulI (.var 5) (.var 5))) (.bin .maxI (.bin .mulI (.var 6) (.var 6)) (.bin .mulI (.var 7) (.var 7)))) (.bin .maxI (.bin .mulI (.var 8) (.var 8)) (.bin .mulI (.var 9) (.var 9))))], [], []⟩ []))
     (.ret ⟨[(.bin .addI (.bin .addI (.bin .minI (.bin .mulI (.var 4) (.var 4)) (.bin .mulI (.var 5) (.var 5))) (.bin .minI (.bin .mulI (.var 6) (.var 6)) (.bin .mulI (.var 7) (.var 7)))) (.bin .minI (.bin .mulI (.var 8) (.var 8)) (.bin .mulI (.var 9) (.var 9)))), (.bin .addI (.bin .addI (.bin .maxI (.bin .mulI (.var 4) (.var 4)) (.bin .mulI (.var 5) (.var 5))) (.bin .maxI (.bin .mulI (.var 6) (.var 6)) (.bin .mulI (.var 7) (.var 7)))) (.bin .maxI (.bin .mulI (.var 8) (.var 8)) (.bin .mulI (.var 9) (.var 9))))], [], []⟩ []))))
  (.ite (.icmp .leq (.var 6) (.lit 0))
   (.ite (.icmp .leq (.lit 0) (.var 7))
    (.ite (.icmp .leq (.var 8) (.lit 0))
     (.ite (.icmp .leq (.lit 0) (.var 9))
      (.ret ⟨[(.bin .minI (.bin .mulI (.var 4) (.var 4)) (.bin .mulI (.var 5) (.var 5))), (.bin .addI (.bin .addI (.bin .maxI (.bin .mulI (.var 4) (.var 4)) (.bin .mulI (.var 5) (.var 5))) (.bin .maxI (.bin .mulI (.var 6) (.var 6)) (.bin .mulI (.var 7) (.var 7)))) (.bin .maxI (.bin .mulI (.var 8) (.var 8)) (.bin .mulI (.var 9) (.var 9))))], [], []⟩ [])
      (.ret ⟨[(.bin .addI (.bin .minI (.bin .mulI (.var 4) (.var 4)) (.bin .mulI (.var 5) (.var 5))) (.bin .minI (.bin .mulI (.var 8) (.var 8)) (.bin .mulI (.var 9) (.var 9)))), (.bin .addI (.bin .addI (.bin .maxI (.bin .mulI (.var 4) (.var 4)) (.bin .mulI (.var 5) (.var 5))) (.bin .maxI (.bin .mulI (.var 6) (.var 6)) (.bin .mulI (.var 7) (.var 7)))) (.bin .maxI (.bin .mulI (.var 8) (.var 8)) (.bin .mulI (.var 9) (.var 9))))], [], []⟩ []))
     (.ret ⟨[(.bin .addI (.bin .minI (.bin .mulI (.var 4) (.var 4)) (.bin .mulI (.var 5) (.var 5))) (.bin .minI (.bin .mulI (.var 8) (.var 8)) (.bin .mulI (.var 9) (.var 9)))), (.bin .addI (.bin .addI (.bin .maxI (.bin .mulI (.var 4) (.var 4)) (.bin .mulI (.var 5) (.var 5))) (.bin .maxI (.bin .mulI (.var 6) (.var 6)) (.bin .mulI (.var 7) (.var 7)))) (.bin .maxI (.bin .mulI (.var 8) (.var 8)) (.bin .mulI (.var 9) (.var 9))))], [], []⟩ []))
    (.ite (.icmp .leq (.var 8) (.lit 0))
     (.ite (.icmp .leq (.lit 0) (.var 9))
      (.ret ⟨[(.bin .addI (.bin .minI (.bin .mulI (.var 4) (.var 4)) (.bin .mulI (.var 5) (.var 5))) (.bin .minI (.bin .mulI (.var 6) (.var 6)) (.bin .mulI (.var 7) (.var 7)))), (.bin .addI (.bin .addI (.bin .maxI (.bin .mulI (.var 4) (.var 4)) (.bin .mulI (.var 5) (.var 5))) (.bin .maxI (.bin .mulI (.var 6) (.var 6)) (.bin .mulI (.var 7) (.var 7)))) (.bin .maxI (.bin .mulI (.var 8) (.var 8)) (.bin .mulI (.var 9) (.var 9))))], [], []⟩ [])
      (.ret ⟨[(.bin .addI (.bin .addI (.bin .minI (.bin .mulI (.var 4) (.var 4)) (.bin .mulI (.var 5) (.var 5))) (.bin .minI (.bin .mulI (.var 6) (.var 6)) (.bin .mulI (.var 7) (.var 7)))) (.bin .minI (.bin .mulI (.var 8) (.var 8)) (.bin .mulI (.var 9) (.var 9)))), (.bin .addI (.bin .addI (.bin .maxI (.bin .mulI (.var 4) (.var 4)) (.bin .mulI (.var 5) (.var 5))) (.bin .maxI (.bin .mulI (.var 6) (.var 6)) (.bin .mulI (.var 7) (.var 7)))) (.bin .maxI (.bin .mulI (.var 8) (.var 8)) (.bin .mulI (.var 9) (.var 9))))], [], []⟩ []))
     (.ret ⟨[(.bin .addI (.bin .addI (.bin .minI (.bin .mulI (.var 4) (.var 4)) (.bin .mulI (.var 5) (.var 5))) (.bin .minI (.bin .mulI (.var 6) (.var 6)) (.bin .mulI (.var 7) (.var 7)))) (.bin .minI (.bin .mulI (.var 8) (.var 8)) (.bin .mulI (.var 9) (.var 9)))), (.bin .addI (.bin .addI (.bin .maxI (.bin .mulI (.var 4) (.var 4)) (.bin .mulI (.var 5) (.var 5))) (.bin .maxI (.bin .mulI (.var 6) (.var 6)) (.bin .mulI (.var 7) (.var 7)))) (.bin .maxI (.bin .mulI (.var 8) (.var 8)) (.bin .mulI (.var 9) (.var 9))))], [], []⟩ [])))
   (.ite (.icmp .leq (.var 8) (.lit 0))
    (.ite (.icmp .leq (.lit 0) (.var 9))
     (.ret ⟨[(.bin .addI (.bin .minI (.bin .mulI (.var 4) (.var 4)) (.bin .mulI (.var 5) (.var 5))) (.bin .minI (.bin .mulI (.var 6) (.var 6)) (.bin .mulI (.var 7) (.var 7)))), (.bin .addI (.bin .addI (.bin .maxI (.bin .mulI (.var 4) (.var 4)) (.bin .mulI (.var 5) (.var 5))) (.bin .maxI (.bin .mulI (.var 6) (.var 6)) (.bin .mulI (.var 7) (.var 7)))) (.bin .maxI (.bin .mulI (.var 8) (.var 8)) (.bin .mulI (.var 9) (.var 9))))], [], []⟩ [])
     (.ret ⟨[(.bin .addI (.bin .addI (.bin .minI (.bin .mulI (.var 4) (.var 4)) (.bin .mulI (.var 5) (.var 5))) (.bin .minI (.bin .mulI (.var 6) (.var 6)) (.bin .mulI (.var 7) (.var 7)))) (.bin .minI (.bin .mulI (.var 8) (.var 8)) (.bin .mulI (.var 9) (.var 9)))), (.bin .addI (.bin .addI (.bin .maxI (.bin .mulI (.var 4) (.var 4)) (.bin .mulI (.var 5) (.var 5))) (.bin .maxI (.bin .mulI (.var 6) (.var 6)) (.bin .mulI (.var 7) (.var 7)))) (.bin .maxI (.bin .mulI (.var 8) (.var 8)) (.bin .mulI (.var 9) (.var 9))))], [], []⟩ []))
    (.ret ⟨[(.bin .addI (.bin .addI (.bin .minI (.bin .mulI (.var 4) (.var 4)) (.bin .mulI (.var 5) (.var 5))) (.bin .minI (.bin .mulI (.var 6) (.var 6)) (.bin .mulI (.var 7) (.var 7)))) (.bin .minI (.bin .mulI (.var 8) (.var 8)) (.bin .mulI (.var 9) (.var 9)))), (.bin .addI (.bin .addI (.bin .maxI (.bin .mulI (.var 4) (.var 4)) (.bin .mulI (.var 5) (.var 5))) (.bin .maxI (.bin .mulI (.var 6) (.var 6)) (.bin .mulI (.var 7) (.var 7)))) (.bin .maxI (.bin .mulI (.var 8) (.var 8)) (.bin .mulI (.var 9) (.var 9))))], [], []⟩ []))))
theorem rsq {x0 x1 x2 x3 x4 x5 x6 x7 x8 x9 : Int} (r1 : (-9223372036854775808) ≤ x1 ∧ x1 ≤ 9223372036854775807) (r2 : (-9223372036854775808) ≤ x2 ∧ x2 ≤ 9223372036854775807) (r3 : (-9223372036854775808) ≤ x3 ∧ x3 ≤ 9223372036854775807) (r4 : (-1048576) ≤ x4 ∧ x4 ≤ 1048576) (r5 : (-1048576) ≤ x5 ∧ x5 ≤ 1048576) (r6 : (-1048576) ≤ x6 ∧ x6 ≤ 1048576) (r7 : (-1048576) ≤ x7 ∧ x7 ≤ 1048576) (r8 : (-1048576) ≤ x8 ∧ x8 ≤ 1048576) (r9 : (-1048576) ≤ x9 ∧ x9 ≤ 1048576) {R : Int → Int → Prop}
  (H : ((decide ((x4 : Int) ≤ 0) = true → ((decide ((0 : Int) ≤ x5) = true → ((decide ((x6 : Int) ≤ 0) = true → ((decide ((0 : Int) ≤ x7) = true → ((decide ((x8 : Int) ≤ 0) = true → ((decide ((0 : Int) ≤ x9) = true → R (0) ((((if ((x5 * x5) : Int) > (x4 * x4) then (x5 * x5) else (x4 * x4)) + (if ((x7 * x7) : Int) > (x6 * x6) then (x7 * x7) else (x6 * x6))) + (if ((x9 * x9) : Int) > (x8 * x8) then (x9 * x9) else (x8 * x8))))) ∧
        (decide ((0 : Int) ≤ x9) = false → R ((if ((x9 * x9) : Int) < (x8 * x8) then (x9 * x9) else (x8 * x8))) ((((if ((x5 * x5) : Int) > (x4 * x4) then (x5 * x5) else (x4 * x4)) + (if ((x7 * x7) : Int) > (x6 * x6) then (x7 * x7) else (x6 * x6))) + (if ((x9 * x9) : Int) > (x8 * x8) then (x9 * x9) else (x8 * x8))))))) ∧
       (decide ((x8 : Int) ≤ 0) = false → R ((if ((x9 * x9) : Int) < (x8 * x8) then (x9 * x9) else (x8 * x8))) ((((if ((x5 * x5) : Int) > (x4 * x4) then (x5 * x5) else (x4 * x4)) + (if ((x7 * x7) : Int) > (x6 * x6) then (x7 * x7) else (x6 * x6))) + (if ((x9 * x9) : Int) > (x8 * x8) then (x9 * x9) else (x8 * x8))))))) ∧
      (decide ((0 : Int) ≤ x7) = false → ((decide ((x8 : Int) ≤ 0) = true → ((decide ((0 : Int) ≤ x9) = true → R ((if ((x7 * x7) : Int) < (x6 * x6) then (x7 * x7) else (x6 * x6))) ((((if ((x5 * x5) : Int) > (x4 * x4) then (x5 * x5) else (x4 * x4)) + (if ((x7 * x7) : Int) > (x6 * x6) then (x7 * x7) else (x6 * x6))) + (if ((x9 * x9) : Int) > (x8 * x8) then (x9 * x9) else (x8 * x8))))) ∧
        (decide ((0 : Int) ≤ x9) = false → R (((if ((x7 * x7) : Int) < (x6 * x6) then (x7 * x7) else (x6 * x6)) + (if ((x9 * x9) : Int) < (x8 * x8) then (x9 * x9) else (x8 * x8)))) ((((if ((x5 * x5) : Int) > (x4 * x4) then (x5 * x5) else (x4 * x4)) + (if ((x7 * x7) : Int) > (x6 * x6) then (x7 * x7) else (x6 * x6))) + (if ((x9 * x9) : Int) > (x8 * x8) then (x9 * x9) else (x8 * x8))))))) ∧
       (decide ((x8 : Int) ≤ 0) = false → R (((if ((x7 * x7) : Int) < (x6 * x6) then (x7 * x7) else (x6 * x6)) + (if ((x9 * x9) : Int) < (x8 * x8) then (x9 * x9) else (x8 * x8)))) ((((if ((x5 * x5) : Int) > (x4 * x4) then (x5 * x5) else (x4 * x4)) + (if ((x7 * x7) : Int) > (x6 * x6) then (x7 * x7) else (x6 * x6))) + (if ((x9 * x9) : Int) > (x8 * x8) then (x9 * x9) else (x8 * x8))))))))) ∧
     (decide ((x6 : Int) ≤ 0) = false → ((decide ((x8 : Int) ≤ 0) = true → ((decide ((0 : Int) ≤ x9) = true → R ((if ((x7 * x7) : Int) < (x6 * x6) then (x7 * x7) else (x6 * x6))) ((((if ((x5 * x5) : Int) > (x4 * x4) then (x5 * x5) else (x4 * x4)) + (if ((x7 * x7) : Int) > (x6 * x6) then (x7 * x7) else (x6 * x6))) + (if ((x9 * x9) : Int) > (x8 * x8) then (x9 * x9) else (x8 * x8))))) ∧
       (decide ((0 : Int) ≤ x9) = false → R (((if ((x7 * x7) : Int) < (x6 * x6) then (x7 * x7) else (x6 * x6)) + (if ((x9 * x9) : Int) < (x8 * x8) then (x9 * x9) else (x8 * x8)))) ((((if ((x5 * x5) : Int) > (x4 * x4) then (x5 * x5) else (x4 * x4)) + (if ((x7 * x7) : Int) > (x6 * x6) then (x7 * x7) else (x6 * x6))) + (if ((x9 * x9) : Int) > (x8 * x8) then (x9 * x9) else (x8 * x8))))))) ∧
      (decide ((x8 : Int) ≤ 0) = false → R (((if ((x7 * x7) : Int) < (x6 * x6) then (x7 * x7) else (x6 * x6)) + (if ((x9 * x9) : Int) < (x8 * x8) then (x9 * x9) else (x8 * x8)))) ((((if ((x5 * x5) : Int) > (x4 * x4) then (x5 * x5) else (x4 * x4)) + (if ((x7 * x7) : Int) > (x6 * x6) then (x7 * x7) else (x6 * x6))) + (if ((x9 * x9) : Int) > (x8 * x8) then (x9 * x9) else (x8 * x8))))))))) ∧
    (decide ((0 : Int) ≤ x5) = false → ((decide ((x6 : Int) ≤ 0) = true → ((decide ((0 : Int) ≤ x7) = true → ((decide ((x8 : Int) ≤ 0) = true → ((decide ((0 : Int) ≤ x9) = true → R ((if ((x5 * x5) : Int) < (x4 * x4) then (x5 * x5) else (x4 * x4))) ((((if ((x5 * x5) : Int) > (x4 * x4) then (x5 * x5) else (x4 * x4)) + (if ((x7 * x7) : Int) > (x6 * x6) then (x7 * x7) else (x6 * x6))) + (if ((x9 * x9) : Int) > (x8 * x8) then (x9 * x9) else (x8 * x8))))) ∧
        (decide ((0 : Int) ≤ x9) = false → R (((if ((x5 * x5) : Int) < (x4 * x4) then (x5 * x5) else (x4 * x4)) + (if ((x9 * x9) : Int) < (x8 * x8) then (x9 * x9) else (x8 * x8)))) ((((if ((x5 * x5) : Int) > (x4 * x4) then (x5 * x5) else (x4 * x4)) + (if ((x7 * x7) : Int) > (x6 * x6) then (x7 * x7) else (x6 * x6))) + (if ((x9 * x9) : Int) > (x8 * x8) then (x9 * x9) else (x8 * x8))))))) ∧
       (decide ((x8 : Int) ≤ 0) = false → R (((if ((x5 * x5) : Int) < (x4 * x4) then (x5 * x5) else (x4 * x4)) + (if ((x9 * x9) : Int) < (x8 * x8) then (x9 * x9) else (x8 * x8)))) ((((if ((x5 * x5) : Int) > (x4 * x4) then (x5 * x5) else (x4 * x4)) + (if ((x7 * x7) : Int) > (x6 * x6) then (x7 * x7) else (x6 * x6))) + (if ((x9 * x9) : Int) > (x8 * x8) then (x9 * x9) else (x8 * x8))))))) ∧
      (decide ((0 : Int) ≤ x7) = false → ((decide ((x8 : Int) ≤ 0) = true → ((decide ((0 : Int) ≤ x9) = true → R (((if ((x5 * x5) : Int) < (x4 * x4) then (x5 * x5) else (x4 * x4)) + (if ((x7 * x7) : Int) < (x6 * x6) then (x7 * x7) else (x6 * x6)))) ((((if ((x5 * x5) : Int) > (x4 * x4) then (x5 * x5) else (x4 * x4)) + (if ((x7 * x7) : Int) > (x6 * x6) then (x7 * x7) else (x6 * x6))) + (if ((x9 * x9) : Int) > (x8 * x8) then (x9 * x9) else (x8 * x8))))) ∧
        (decide ((0 : Int) ≤ x9) = false → R ((((if ((x5 * x5) : Int) < (x4 * x4) then (x5 * x5) else (x4 * x4)) + (if ((x7 * x7) : Int) < (x6 * x6) then (x7 * x7) else (x6 * x6))) + (if ((x9 * x9) : Int) < (x8 * x8) then (x9 * x9) else (x8 * x8)))) ((((if ((x5 * x5) : Int) > (x4 * x4) then (x5 * x5) else (x4 * x4)) + (if ((x7 * x7) : Int) > (x6 * x6) then (x7 * x7) else (x6 * x6))) + (if ((x9 * x9) : Int) > (x8 * x8) then (x9 * x9) else (x8 * x8))))))) ∧
       (decide ((x8 : Int) ≤ 0) = false → R ((((if ((x5 * x5) : Int) < (x4 * x4) then (x5 * x5) else (x4 * x4)) + (if ((x7 * x7) : Int) < (x6 * x6) then (x7 * x7) else (x6 * x6))) + (if ((x9 * x9) : Int) < (x8 * x8) then (x9 * x9) else (x8 * x8)))) ((((if ((x5 * x5) : Int) > (x4 * x4) then (x5 * x5) else (x4 * x4)) + (if ((x7 * x7) : Int) > (x6 * x6) then (x7 * x7) else (x6 * x6))) + (if ((x9 * x9) : Int) > (x8 * x8) then (x9 * x9) else (x8 * x8))))))))) ∧
     (decide ((x6 : Int) ≤ 0) = false → ((decide ((x8 : Int) ≤ 0) = true → ((decide ((0 : Int) ≤ x9) = true → R (((if ((x5 * x5) : Int) < (x4 * x4) then (x5 * x5) else (x4 * x4)) + (if ((x7 * x7) : Int) < (x6 * x6) then (x7 * x7) else (x6 * x6)))) ((((if ((x5 * x5) : Int) > (x4 * x4) then (x5 * x5) else (x4 * x4)) + (if ((x7 * x7) : Int) > (x6 * x6) then (x7 * x7) else (x6 * x6))) + (if ((x9 * x9) : Int) > (x8 * x8) then (x9 * x9) else (x8 * x8))))) ∧
       (decide ((0 : Int) ≤ x9) = false → R ((((if ((x5 * x5) : Int) < (x4 * x4) then (x5 * x5) else (x4 * x4)) + (if ((x7 * x7) : Int) < (x6 * x6) then (x7 * x7) else (x6 * x6))) + (if ((x9 * x9) : Int) < (x8 * x8) then (x9 * x9) else (x8 * x8)))) ((((if ((x5 * x5) : Int) > (x4 * x4) then (x5 * x5) else (x4 * x4)) + (if ((x7 * x7) : Int) > (x6 * x6) then (x7 * x7) else (x6 * x6))) + (if ((x9 * x9) : Int) > (x8 * x8) then (x9 * x9) else (x8 * x8))))))) ∧
      (decide ((x8 : Int) ≤ 0) = false → R ((((if ((x5 * x5) : Int) < (x4 * x4) then (x5 * x5) else (x4 * x4)) + (if ((x7 * x7) : Int) < (x6 * x6) then (x7 * x7) else (x6 * x6))) + (if ((x9 * x9) : Int) < (x8 * x8) then (x9 * x9) else (x8 * x8)))) ((((if ((x5 * x5) : Int) > (x4 * x4) then (x5 * x5) else (x4 * x4)) + (if ((x7 * x7) : Int) > (x6 * x6) then (x7 * x7) else (x6 * x6))) + (if ((x9 * x9) : Int) > (x8 * x8) then (x9 * x9) else (x8 * x8))))))))))) ∧
   (decide ((x4 : Int) ≤ 0) = false → ((decide ((x6 : Int) ≤ 0) = true → ((decide ((0 : Int) ≤ x7) = true → ((decide ((x8 : Int) ≤ 0) = true → ((decide ((0 : Int) ≤ x9) = true → R ((if ((x5 * x5) : Int) < (x4 * x4) then (x5 * x5) else (x4 * x4))) ((((if ((x5 * x5) : Int) > (x4 * x4) then (x5 * x5) else (x4 * x4)) + (if ((x7 * x7) : Int) > (x6 * x6) then (x7 * x7) else (x6 * x6))) + (if ((x9 * x9) : Int) > (x8 * x8) then (x9 * x9) else (x8 * x8))))) ∧
       (decide ((0 : Int) ≤ x9) = false → R (((if ((x5 * x5) : Int) < (x4 * x4) then (x5 * x5) else (x4 * x4)) + (if ((x9 * x9) : Int) < (x8 * x8) then (x9 * x9) else (x8 * x8)))) ((((if ((x5 * x5) : Int) > (x4 * x4) then (x5 * x5) else (x4 * x4)) + (if ((x7 * x7) : Int) > (x6 * x6) then (x7 * x7) else (x6 * x6))) + (if ((x9 * x9) : Int) > (x8 * x8) then (x9 * x9) else (x8 * x8))))))) ∧
      (decide ((x8 : Int) ≤ 0) = false → R (((if ((x5 * x5) : Int) < (x4 * x4) then (x5 * x5) else (x4 * x4)) + (if ((x9 * x9) : Int) < (x8 * x8) then (x9 * x9) else (x8 * x8)))) ((((if ((x5 * x5) : Int) > (x4 * x4) then (x5 * x5) else (x4 * x4)) + (if ((x7 * x7) : Int) > (x6 * x6) then (x7 * x7) else (x6 * x6))) + (if ((x9 * x9) : Int) > (x8 * x8) then (x9 * x9) else (x8 * x8))))))) ∧
     (decide ((0 : Int) ≤ x7) = false → ((decide ((x8 : Int) ≤ 0) = true → ((decide ((0 : Int) ≤ x9) = true → R (((if ((x5 * x5) : Int) < (x4 * x4) then (x5 * x5) else (x4 * x4)) + (if ((x7 * x7) : Int) < (x6 * x6) then (x7 * x7) else (x6 * x6)))) ((((if ((x5 * x5) : Int) > (x4 * x4) then (x5 * x5) else (x4 * x4)) + (if ((x7 * x7) : Int) > (x6 * x6) then (x7 * x7) else (x6 * x6))) + (if ((x9 * x9) : Int) > (x8 * x8) then (x9 * x9) else (x8 * x8))))) ∧
       (decide ((0 : Int) ≤ x9) = false → R ((((if ((x5 * x5) : Int) < (x4 * x4) then (x5 * x5) else (x4 * x4)) + (if ((x7 * x7) : Int) < (x6 * x6) then (x7 * x7) else (x6 * x6))) + (if ((x9 * x9) : Int) < (x8 * x8) then (x9 * x9) else (x8 * x8)))) ((((if ((x5 * x5) : Int) > (x4 * x4) then (x5 * x5) else (x4 * x4)) + (if ((x7 * x7) : Int) > (x6 * x6) then (x7 * x7) else (x6 * x6))) + (if ((x9 * x9) : Int) > (x8 * x8) then (x9 * x9) else (x8 * x8))))))) ∧
      (decide ((x8 : Int) ≤ 0) = false → R ((((if ((x5 * x5) : Int) < (x4 * x4) then (x5 * x5) else (x4 * x4)) + (if ((x7 * x7) : Int) < (x6 * x6) then (x7 * x7) else (x6 * x6))) + (if ((x9 * x9) : Int) < (x8 * x8) then (x9 * x9) else (x8 * x8)))) ((((if ((x5 * x5) : Int) > (x4 * x4) then (x5 * x5) else (x4 * x4)) + (if ((x7 * x7) : Int) > (x6 * x6) then (x7 * x7) else (x6 * x6))) + (if ((x9 * x9) : Int) > (x8 * x8) then (x9 * x9) else (x8 * x8))))))))) ∧
    (decide ((x6 : Int) ≤ 0) = false → ((decide ((x8 : Int) ≤ 0) = true → ((decide ((0 : Int) ≤ x9) = true → R (((if ((x5 * x5) : Int) < (x4 * x4) then (x5 * x5) else (x4 * x4)) + (if ((x7 * x7) : Int) < (x6 * x6) then (x7 * x7) else (x6 * x6)))) ((((if ((x5 * x5) : Int) > (x4 * x4) then (x5 * x5) else (x4 * x4)) + (if ((x7 * x7) : Int) > (x6 * x6) then (x7 * x7) else (x6 * x6))) + (if ((x9 * x9) : Int) > (x8 * x8) then (x9 * x9) else (x8 * x8))))) ∧
      (decide ((0 : Int) ≤ x9) = false → R ((((if ((x5 * x5) : Int) < (x4 * x4) then (x5 * x5) else (x4 * x4)) + (if ((x7 * x7) : Int) < (x6 * x6) then (x7 * x7) else (x6 * x6))) + (if ((x9 * x9) : Int) < (x8 * x8) then (x9 * x9) else (x8 * x8)))) ((((if ((x5 * x5) : Int) > (x4 * x4) then (x5 * x5) else (x4 * x4)) + (if ((x7 * x7) : Int) > (x6 * x6) then (x7 * x7) else (x6 * x6))) + (if ((x9 * x9) : Int) > (x8 * x8) then (x9 * x9) else (x8 * x8))))))) ∧
     (decide ((x8 : Int) ≤ 0) = false → R ((((if ((x5 * x5) : Int) < (x4 * x4) then (x5 * x5) else (x4 * x4)) + (if ((x7 * x7) : Int) < (x6 * x6) then (x7 * x7) else (x6 * x6))) + (if ((x9 * x9) : Int) < (x8 * x8) then (x9 * x9) else (x8 * x8)))) ((((if ((x5 * x5) : Int) > (x4 * x4) then (x5 * x5) else (x4 * x4)) + (if ((x7 * x7) : Int) > (x6 * x6) then (x7 * x7) else (x6 * x6))) + (if ((x9 * x9) : Int) > (x8 * x8) then (x9 * x9) else (x8 * x8))))))))))) :
    ∃ v0 : Int, ∃ v1 : Int, R v0 v1 ∧ Spec Tryz.prog etalonref06_squares_s ⟨[x0, x1, x2, x3, x4, x5, x6, x7, x8, x9], [], []⟩ [v0, v1] [] [] :=
  Eq.mp (by kernel_rfl) (exV_of (K := fun d => app3 etalonref06_squares_s.out R d ∧ Spec Tryz.prog etalonref06_squares_s ⟨[x0, x1, x2, x3, x4, x5, x6, x7, x8, x9], [], []⟩ d.1 d.2.1 d.2.2) (tree_at mixed names S1_ok (S := S1 Tryz.prog) (lf := 100000) (d := 60) etalonref06_squares_s rsq_t { ivs := [(1, (-9223372036854775808), 9223372036854775807), (2, (-9223372036854775808), 9223372036854775807), (3, (-9223372036854775808), 9223372036854775807), (4, (-1048576), 1048576), (5, (-1048576), 1048576), (6, (-1048576), 1048576), (7, (-1048576), 1048576), (8, (-1048576), 1048576), (9, (-1048576), 1048576)], aivs := [] } ⟨[x0, x1, x2, x3, x4, x5, x6, x7, x8, x9], [], []⟩ rfl (by kernel_rfl) (by kernel_rfl) (by kernel_rfl) ⟨(fc r1 (fc r2 (fc r3 (fc r4 (fc r5 (fc r6 (fc r7 (fc r8 (fc r9 fz))))))))), fz, fz, fz⟩ (R := fun d => app3 etalonref06_squares_s.out R d) (Eq.mp (by kernel_rfl) H)))

def rdg_t : Tr :=
  (.call etalonref06_squares_s ⟨[(.var 0), (.var 1), (.var 2), (.var 3), (.var 4), (.var 5), (.var 6), (.var 7), (.var 8), (.var 9)], [], []⟩ ⟨[(.var 0), (.var 1), (.var 2), (.var 3), (.var 4), (.var 5), (.var 6), (.var 7), (.var 8), (.var 9), (.var 10), (.var 11)], [], []⟩ ⟨31, [(.agg [(.strn (.var 0)), (.int .i64 (.var 1)), (.int .i64 (.var 2)), (.int .i64 (.var 3)), (.int .i64 (.var 4)), (.int .i64 (.var 5)), (.int .i64 (.var 6)), (.int .i64 (.var 7)), (.int .i64 (.var 8)), (.int .i64 (.var 9))])], [], [none, none], (.tuple [(.int .i64 (.var 10)), (.int .i64 (.var 11))]), []⟩
  (.call etalonbase_Floor_s ⟨[(.var 10), (.lit 1048576)], [], []⟩ ⟨[(.var 10), (.lit 1048576), (.var 12)], [], []⟩ ⟨32, [(.int .i64 (.var 10)), (.int .i64 (.lit 1048576))], [], [none, none], (.int .i64 (.var 12)), []⟩
  (.call etalonbase_Ceil_s ⟨[(.var 11), (.lit 1048576)], [], []⟩ ⟨[(.var 11), (.lit 1048576), (.var 13)], [], []⟩ ⟨33, [(.int .i64 (.var 11)), (.int .i64 (.lit 1048576))], [], [none, none], (.int .i64 (.var 13)), []⟩
  (.ret ⟨[(.var 12), (.var 13)], [], []⟩ []))))
theorem rdg {x0 x1 x2 x3 x4 x5 x6 x7 x8 x9 : Int} (r1 : (-9223372036854775808) ≤ x1 ∧ x1 ≤ 9223372036854775807) (r2 : (-9223372036854775808) ≤ x2 ∧ x2 ≤ 9223372036854775807) (r3 : (-9223372036854775808) ≤ x3 ∧ x3 ≤ 9223372036854775807) (r4 : (-9223372036854775808) ≤ x4 ∧ x4 ≤ 9223372036854775807) (r5 : (-9223372036854775808) ≤ x5 ∧ x5 ≤ 9223372036854775807) (r6 : (-9223372036854775808) ≤ x6 ∧ x6 ≤ 9223372036854775807) (r7 : (-9223372036854775808) ≤ x7 ∧ x7 ≤ 9223372036854775807) (r8 : (-9223372036854775808) ≤ x8 ∧ x8 ≤ 9223372036854775807) (r9 : (-9223372036854775808) ≤ x9 ∧ x9 ≤ 9223372036854775807) {R : Int → Int → Prop}
  (H : (∃ v10 : Int, ∃ v11 : Int, Spec Tryz.prog etalonref06_squares_s ⟨[x0, x1, x2, x3, x4, x5, x6, x7, x8, x9], [], []⟩ [v10, v11] [] [] ∧
   (∃ v12 : Int, Spec Tryz.prog etalonbase_Floor_s ⟨[v10, 1048576], [], []⟩ [v12] [] [] ∧
   (∃ v13 : Int, Spec Tryz.prog etalonbase_Ceil_s ⟨[v11, 1048576], [], []⟩ [v13] [] [] ∧
   R (v12) (v13))))) :
    ∃ v0 : Int, ∃ v1 : Int, R v0 v1 ∧ Spec Tryz.prog etalonref06_DegreeOf_s ⟨[x0, x1, x2, x3, x4, x5, x6, x7, x8, x9], [], []⟩ [v0, v1] [] [] :=
  Eq.mp (by kernel_rfl) (exV_of (K := fun d => app3 etalonref06_DegreeOf_s.out R d ∧ Spec Tryz.prog etalonref06_DegreeOf_s ⟨[x0, x1, x2, x3, x4, x5, x6, x7, x8, x9], [], []⟩ d.1 d.2.1 d.2.2) (tree_at mixed names S1_ok (S := S1 Tryz.prog) (lf := 100000) (d := 60) etalonref06_DegreeOf_s rdg_t { ivs := [(1, (-9223372036854775808), 9223372036854775807), (2, (-9223372036854775808), 9223372036854775807), (3, (-9223372036854775808), 9223372036854775807), (4, (-9223372036854775808), 9223372036854775807), (5, (-9223372036854775808), 9223372036854775807), (6, (-9223372036854775808), 9223372036854775807), (7, (-9223372036854775808), 9223372036854775807), (8, (-9223372036854775808), 9223372036854775807), (9, (-9223372036854775808), 9223372036854775807)], aivs := [] } ⟨[x0, x1, x2, x3, x4, x5, x6, x7, x8, x9], [], []⟩ rfl (by kernel_rfl) (by kernel_rfl) (by kernel_rfl) ⟨(fc r1 (fc r2 (fc r3 (fc r4 (fc r5 (fc r6 (fc r7 (fc r8 (fc r9 fz))))))))), fz, fz, fz⟩ (R := fun d => app3 etalonref06_DegreeOf_s.out R d) (Eq.mp (by kernel_rfl) H)))

def rpos_t : Tr :=
  (.call etalonref06_squares_s ⟨[(.var 0), (.var 1), (.var 2), (.var 3), (.var 4), (.var 5), (.var 6), (.var 7), (.var 8), (.var 9)], [], []⟩ ⟨[(.var 0), (.var 1), (.var 2), (.var 3), (.var 4), (.var 5), (.var 6), (.var 7), (.var 8), (.var 9), (.var 10), (.var 11)], [], []⟩ ⟨31, [(.agg [(.strn (.var 0)), (.int .i64 (.var 1)), (.int .i64 (.var 2)), (.int .i64 (.var 3)), (.int .i64 (.var 4)), (.int .i64 (.var 5)), (.int .i64 (.var 6)), (.int .i64 (.var 7)), (.int .i64 (.var 8)), (.int .i64 (.var 9))])], [], [none], (.tuple [(.int .i64 (.var 10)), (.int .i64 (.var 11))]), []⟩
  (.ite (.icmp .leq (.var 10) (.lit 1099511627776))
  (.ite (.icmp .leq (.var 11) (.lit 1099511627776))
   (.ret ⟨[(.lit 2)], [], []⟩ [])
   (.ret ⟨[(.lit 1)], [], []⟩ []))
  (.ret ⟨[(.lit 0)], [], []⟩ [])))
theorem rpos {x0 x1 x2 x3 x4 x5 x6 x7 x8 x9 : Int} (r1 : (-9223372036854775808) ≤ x1 ∧ x1 ≤ 9223372036854775807) (r2 : (-9223372036854775808) ≤ x2 ∧ x2 ≤ 9223372036854775807) (r3 : (-9223372036854775808) ≤ x3 ∧ x3 ≤ 9223372036854775807) (r4 : (-9223372036854775808) ≤ x4 ∧ x4 ≤ 9223372036854775807) (r5 : (-9223372036854775808) ≤ x5 ∧ x5 ≤ 9223372036854775807) (r6 : (-9223372036854775808) ≤ x6 ∧ x6 ≤ 9223372036854775807) (r7 : (-9223372036854775808) ≤ x7 ∧ x7 ≤ 9223372036854775807) (r8 : (-9223372036854775808) ≤ x8 ∧ x8 ≤ 9223372036854775807) (r9 : (-9223372036854775808) ≤ x9 ∧ x9 ≤ 9223372036854775807) {R : Int → Prop}
  (H : (∃ v10 : Int, ∃ v11 : Int, Spec Tryz.prog etalonref06_squares_s ⟨[x0, x1, x2, x3, x4, x5, x6, x7, x8, x9], [], []⟩ [v10, v11] [] [] ∧
   ((decide ((v10 : Int) ≤ 1099511627776) = true → ((decide ((v11 : Int) ≤ 1099511627776) = true → R (2)) ∧
    (decide ((v11 : Int) ≤ 1099511627776) = false → R (1)))) ∧
   (decide ((v10 : Int) ≤ 1099511627776) = false → R (0))))) :
    ∃ v0 : Int, R v0 ∧ Spec Tryz.prog etalonref06_Possible_s ⟨[x0, x1, x2, x3, x4, x5, x6, x7, x8, x9], [], []⟩ [v0] [] [] :=
  Eq.mp (by kernel_rfl) (exV_of (K := fun d => app3 etalonref06_Possible_s.out R d ∧ Spec Tryz.prog etalonref06_Possible_s ⟨[x0, x1, x2, x3, x4, x5, x6, x7, x8, x9], [], []⟩ d.1 d.2.1 d.2.2) (tree_at mixed names S1_ok (S := S1 Tryz.prog) (lf := 100000) (d := 60) etalonref06_Possible_s rpos_t { ivs := [(1, (-9223372036854775808), 9223372036854775807), (2, (-9223372036854775808), 9223372036854775807), (3, (-9223372036854775808), 9223372036854775807), (4, (-9223372036854775808), 9223372036854775807), (5, (-9223372036854775808), 9223372036854775807), (6, (-9223372036854775808), 9223372036854775807), (7, (-9223372036854775808), 9223372036854775807), (8, (-9223372036854775808), 9223372036854775807), (9, (-9223372036854775808), 9223372036854775807)], aivs := [] } ⟨[x0, x1, x2, x3, x4, x5, x6, x7, x8, x9], [], []⟩ rfl (by kernel_rfl) (by kernel_rfl) (by kernel_rfl) ⟨(fc r1 (fc r2 (fc r3 (fc r4 (fc r5 (fc r6 (fc r7 (fc r8 (fc r9 fz))))))))), fz, fz, fz⟩ (R := fun d => app3 etalonref06_Possible_s.out R d) (Eq.mp (by kernel_rfl) H)))

theorem checkReading_r {x0 x1 x2 x3 x4 x5 x6 x7 x8 x9 : Int} {u : Bool} (hu : Spec Tryz.prog etalonbase_IsName_s ⟨[x0], [], []⟩ [] [u] []) (r1 : I64 x1) (r2 : I64 x2) (r3 : I64 x3) (r4 : I64 x4) (r5 : I64 x5) (r6 : I64 x6) (r7 : I64 x7) (r8 : I64 x8) (r9 : I64 x9) :

    Spec Tryz.prog etalonref06_CheckReading_s ⟨[x0, x1, x2, x3, x4, x5, x6, x7, x8, x9], [], []⟩ [rdE u x1 x2 x3 x4 x5 x6 x7 x8 x9] [] [] := by

  suffices hh : ∃ v : Int, v = rdE u x1 x2 x3 x4 x5 x6 x7 x8 x9 ∧ Spec Tryz.prog etalonref06_CheckReading_s ⟨[x0, x1, x2, x3, x4, x5, x6, x7, x8, x9], [], []⟩ [v] [] [] by

    obtain ⟨v, rfl, hs⟩ := hh

    exact hs

  refine rcr r1 r2 r3 r4 r5 r6 r7 r8 r9 (R := (· = rdE u x1 x2 x3 x4 x5 x6 x7 x8 x9)) ⟨u, hu, ?_⟩

  simp only [decide_eq_true_eq, decide_eq_false_iff_not]

  unfold rdE se fe re

  cases u

  · exact ⟨fun h => (by cases h), fun _ => rfl⟩

  · refine ⟨fun _ => ?_, fun h => by cases h⟩

    rw [if_pos rfl]

    repeat' (first | (refine ⟨fun _ => ?_, fun _ => ?_⟩) | fail)

    all_goals (repeat (first | rw [if_pos (by omega)] | rw [if_neg (by omega)]))

/-- The squares of an enclosure. -/

def sqL (a b : Int) : Int := if a < 0 ∧ 0 < b then 0 else min (a * a) (b * b)

def sqH (a b : Int) : Int := max (a * a) (b * b)

def R20 (a : Int) : Prop := (-1048576) ≤ a ∧ a ≤ 1048576

theorem self_nn (a : Int) : 0 ≤ a * a := by

  rcases Int.le_total 0 a with g | g

  · exact Int.mul_nonneg g g

  · have e : a * a = (-a) * (-a) := by rw [Int.neg_mul_neg]

    rw [e]; exact Int.mul_nonneg (by omega) (by omega)

theorem sq_bd {a : Int} (h : R20 a) : 0 ≤ a * a ∧ a * a ≤ 1099511627776 := by

  obtain ⟨h1, h2⟩ := h

  refine ⟨self_nn a, ?_⟩

  rcases Int.le_total 0 a with g | g

  · exact Int.mul_le_mul h2 h2 g (by omega)

  · have e : a * a = (-a) * (-a) := by rw [Int.neg_mul_neg]

    rw [e]; exact Int.mul_le_mul (c := 1048576) (d := 1048576) (by omega) (by omega) (by omega) (by omega)

theorem imin (x y : Int) : (if y < x then y else x) = min x y := by rw [Int.min_def]; split <;> split <;> omega

theorem imax (x y : Int) : (if y > x then y else x) = max x y := by rw [Int.max_def]; split <;> split <;> omega

theorem sqLH {a b : Int} (ha : R20 a) (hb : R20 b) : (0 ≤ sqL a b ∧ sqL a b ≤ 1099511627776) ∧ (0 ≤ sqH a b ∧ sqH a b ≤ 1099511627776) ∧ sqL a b ≤ sqH a b := by

  have h1 := sq_bd ha

  have h2 := sq_bd hb

  unfold sqL sqH

  generalize a * a = p at *

  generalize b * b = q at *

  split <;> omega

theorem square_s {a b : Int} (ha : R20 a) (hb : R20 b) : Spec Tryz.prog meter_square_s ⟨[a, b], [], []⟩ [sqL a b, sqH a b] [] [] := by

  obtain ⟨v, u, ⟨rfl, rfl⟩, h⟩ := sq ha hb (R := fun v u => v = sqL a b ∧ u = sqH a b) (by

    simp only [decide_eq_true_eq, decide_eq_false_iff_not, imin, imax]

    unfold sqL sqH

    exact ⟨fun h => ⟨by rw [if_neg (by omega)], rfl⟩, fun h => ⟨fun g => ⟨by rw [if_neg (by omega)], rfl⟩, fun g => ⟨by rw [if_pos (by omega)], rfl⟩⟩⟩)

  exact h

theorem quot_s {x : Int} (h : 0 ≤ x ∧ x ≤ 4398046511104) : Spec Tryz.prog span_Quotient_s ⟨[x, 1048576], [], []⟩ [x / 1048576, cdiv x 1048576] [] [] := by

  have dv : DvIn x 1 1048576 := DvIn_by (X := 4398046511104) (Y := 1) (by omega) (by omega) (by omega) (by omega) (by omega) (by omega) (by decide) (by decide) (by decide)

  have l := lower_s dv

  have u := upper_s dv

  rw [Int.mul_one] at l u

  obtain ⟨v, w, ⟨rfl, rfl⟩, hs⟩ := qu h (by decide : (1048576 : Int) ≤ 1048576 ∧ (1048576 : Int) ≤ 1048576) (R := fun v w => v = x / 1048576 ∧ w = cdiv x 1048576) (by

    first

    | exact ⟨_, l, _, u, rfl, rfl⟩

    | exact ⟨fun _ => ⟨_, l, _, u, rfl, rfl⟩, fun h => by simp at h⟩)

  exact hs

def dgL (x4 x5 x6 x7 x8 x9 : Int) : Int := sqL x4 x5 + sqL x6 x7 + sqL x8 x9

def dgH (x4 x5 x6 x7 x8 x9 : Int) : Int := sqH x4 x5 + sqH x6 x7 + sqH x8 x9

def posN (lo hi : Int) : Int := if lo ≤ 1099511627776 then (if hi ≤ 1099511627776 then 2 else 1) else 0

theorem rdE_R {u : Bool} {x1 x2 x3 x4 x5 x6 x7 x8 x9 : Int} (h : rdE u x1 x2 x3 x4 x5 x6 x7 x8 x9 = 0) : R20 x4 ∧ R20 x5 ∧ R20 x6 ∧ R20 x7 ∧ R20 x8 ∧ R20 x9 ∧ x4 ≤ x5 := by

  have key : ∀ a b : Int, re (-1048576) 1048576 a b = 0 → R20 a ∧ R20 b ∧ a ≤ b := fun a b h => by

    unfold re at h

    split at h

    · split at h

      · exact ⟨⟨by omega, by omega⟩, ⟨by omega, by omega⟩, by omega⟩

      · omega

    · omega

  have fe0 : ∀ a b : Int, fe a b = 0 → a = 0 ∧ b = 0 := fun a b h => by

    unfold fe at h; split at h <;> omega

  unfold rdE at h

  obtain ⟨_, h⟩ := fe0 _ _ h

  obtain ⟨h1, h⟩ := fe0 _ _ h

  obtain ⟨h2, h3⟩ := fe0 _ _ h

  exact ⟨(key _ _ h1).1, (key _ _ h1).2.1, (key _ _ h2).1, (key _ _ h2).2.1, (key _ _ h3).1, (key _ _ h3).2.1, (key _ _ h1).2.2⟩

theorem degree_s {x0 x1 x2 x3 x4 x5 x6 x7 x8 x9 : Int} (hc : Spec Tryz.prog meter_CheckReading_s ⟨[x0, x1, x2, x3, x4, x5, x6, x7, x8, x9], [], []⟩ [0] [] []) (r1 : I64 x1) (r2 : I64 x2) (r3 : I64 x3) (h4 : R20 x4) (h5 : R20 x5) (h6 : R20 x6) (h7 : R20 x7) (h8 : R20 x8) (h9 : R20 x9) :

    Spec Tryz.prog meter_DegreeOf_s ⟨[x0, x1, x2, x3, x4, x5, x6, x7, x8, x9], [], []⟩ [dgL x4 x5 x6 x7 x8 x9 / 1048576, cdiv (dgH x4 x5 x6 x7 x8 x9) 1048576, 0] [] [] := by

  have b1 := sqLH h4 h5

  have b2 := sqLH h6 h7

  have b3 := sqLH h8 h9

  obtain ⟨a, b, c, ⟨rfl, rfl, rfl⟩, hs⟩ := dg r1 r2 r3 h4 h5 h6 h7 h8 h9 (R := fun a b c => a = dgL x4 x5 x6 x7 x8 x9 / 1048576 ∧ b = cdiv (dgH x4 x5 x6 x7 x8 x9) 1048576 ∧ c = 0)

    ⟨0, hc, fun _ => ⟨_, _, square_s h4 h5, b1.1, b1.2.1, _, _, square_s h6 h7, b2.1, b2.2.1, _, _, square_s h8 h9, b3.1, b3.2.1, _, _, quot_s (by omega), _, _, quot_s (by omega), by

      show (if dgH x4 x5 x6 x7 x8 x9 / 1048576 < dgL x4 x5 x6 x7 x8 x9 / 1048576 then dgH x4 x5 x6 x7 x8 x9 / 1048576 else dgL x4 x5 x6 x7 x8 x9 / 1048576) = dgL x4 x5 x6 x7 x8 x9 / 1048576

      rw [imin]

      have : dgL x4 x5 x6 x7 x8 x9 ≤ dgH x4 x5 x6 x7 x8 x9 := by unfold dgL dgH; omega

      omega, by

      show (if cdiv (dgH x4 x5 x6 x7 x8 x9) 1048576 > cdiv (dgL x4 x5 x6 x7 x8 x9) 1048576 then cdiv (dgH x4 x5 x6 x7 x8 x9) 1048576 else cdiv (dgL x4 x5 x6 x7 x8 x9) 1048576) = cdiv (dgH x4 x5 x6 x7 x8 x9) 1048576

      rw [imax]

      have : dgL x4 x5 x6 x7 x8 x9 ≤ dgH x4 x5 x6 x7 x8 x9 := by unfold dgL dgH; omega

      unfold cdiv; omega, rfl⟩, fun h => by cases h⟩

  exact hs

theorem possible_s {x0 x1 x2 x3 x4 x5 x6 x7 x8 x9 : Int} (hc : Spec Tryz.prog meter_CheckReading_s ⟨[x0, x1, x2, x3, x4, x5, x6, x7, x8, x9], [], []⟩ [0] [] []) (r1 : I64 x1) (r2 : I64 x2) (r3 : I64 x3) (h4 : R20 x4) (h5 : R20 x5) (h6 : R20 x6) (h7 : R20 x7) (h8 : R20 x8) (h9 : R20 x9) :

    Spec Tryz.prog meter_Possible_s ⟨[x0, x1, x2, x3, x4, x5, x6, x7, x8, x9], [], []⟩ [posN (dgL x4 x5 x6 x7 x8 x9) (dgH x4 x5 x6 x7 x8 x9), 0] [] [] := by

  have b1 := sqLH h4 h5

  have b2 := sqLH h6 h7

  have b3 := sqLH h8 h9

  obtain ⟨a, b, ⟨rfl, rfl⟩, hs⟩ := ps r1 r2 r3 h4 h5 h6 h7 h8 h9 (R := fun a b => a = posN (dgL x4 x5 x6 x7 x8 x9) (dgH x4 x5 x6 x7 x8 x9) ∧ b = 0)

    ⟨0, hc, fun _ => ⟨_, _, square_s h4 h5, b1.1, b1.2.1, _, _, square_s h6 h7, b2.1, b2.2.1, _, _, square_s h8 h9, b3.1, b3.2.1, by

      simp only [decide_eq_true_eq, decide_eq_false_iff_not]

      unfold posN dgL dgH

      exact ⟨fun h => ⟨fun g => ⟨by rw [if_pos h, if_pos g], trivial⟩, fun g => ⟨by rw [if_pos h, if_neg g], trivial⟩⟩, fun h => ⟨by rw [if_neg h], trivial⟩⟩⟩, fun h => by cases h⟩

  exact hs

theorem degree_no {x0 x1 x2 x3 x4 x5 x6 x7 x8 x9 e : Int} (hc : Spec Tryz.prog meter_CheckReading_s ⟨[x0, x1, x2, x3, x4, x5, x6, x7, x8, x9], [], []⟩ [e] [] []) (he : e ≠ 0) (r1 : I64 x1) (r2 : I64 x2) (r3 : I64 x3) (r4 : I64 x4) (r5 : I64 x5) (r6 : I64 x6) (r7 : I64 x7) (r8 : I64 x8) (r9 : I64 x9) :

    Spec Tryz.prog meter_DegreeOf_s ⟨[x0, x1, x2, x3, x4, x5, x6, x7, x8, x9], [], []⟩ [0, 0, e] [] [] ∧ Spec Tryz.prog meter_Possible_s ⟨[x0, x1, x2, x3, x4, x5, x6, x7, x8, x9], [], []⟩ [0, e] [] [] := by

  obtain ⟨a, b, c, ⟨rfl, rfl, rfl⟩, h1⟩ := dgn r1 r2 r3 r4 r5 r6 r7 r8 r9 (R := fun a b c => a = 0 ∧ b = 0 ∧ c = e) ⟨_, hc, fun h => absurd (by simpa using h) he, fun _ => ⟨rfl, rfl, rfl⟩⟩

  obtain ⟨a, b, ⟨rfl, rfl⟩, h2⟩ := psn r1 r2 r3 r4 r5 r6 r7 r8 r9 (R := fun a b => a = 0 ∧ b = c) ⟨_, hc, fun h => absurd (by simpa using h) he, fun _ => ⟨rfl, rfl⟩⟩

  exact ⟨h1, h2⟩

theorem squares_r {x0 x1 x2 x3 x4 x5 x6 x7 x8 x9 : Int} (r1 : I64 x1) (r2 : I64 x2) (r3 : I64 x3) (h4 : R20 x4) (h5 : R20 x5) (h6 : R20 x6) (h7 : R20 x7) (h8 : R20 x8) (h9 : R20 x9) :

    Spec Tryz.prog etalonref06_squares_s ⟨[x0, x1, x2, x3, x4, x5, x6, x7, x8, x9], [], []⟩ [dgL x4 x5 x6 x7 x8 x9, dgH x4 x5 x6 x7 x8 x9] [] [] := by

  have yes : ∀ a b : Int, a ≤ 0 → 0 ≤ b → sqL a b = 0 := fun a b h g => by

    unfold sqL; split

    · rfl

    · have : a = 0 ∨ b = 0 := by omega

      have h1 : 0 ≤ a * a := self_nn a

      have h2 : 0 ≤ b * b := self_nn b

      rcases this with rfl | rfl <;> simp only [Int.mul_zero] at * <;> omega

  have no1 : ∀ a b : Int, ¬ a ≤ 0 → sqL a b = min (a * a) (b * b) := fun a b h => by unfold sqL; rw [if_neg (by omega)]

  have no2 : ∀ a b : Int, ¬ 0 ≤ b → sqL a b = min (a * a) (b * b) := fun a b h => by unfold sqL; rw [if_neg (by omega)]

  obtain ⟨a, b, ⟨rfl, rfl⟩, hs⟩ := rsq r1 r2 r3 h4 h5 h6 h7 h8 h9 (R := fun a b => a = dgL x4 x5 x6 x7 x8 x9 ∧ b = dgH x4 x5 x6 x7 x8 x9) (by

    simp only [decide_eq_true_eq, decide_eq_false_iff_not, imin, imax]

    unfold dgL dgH

    repeat' (first | (refine ⟨fun _ => ?_, fun _ => ?_⟩) | fail)

    all_goals (refine ⟨?_, rfl⟩)

    all_goals (repeat (first | rw [yes x4 x5 (by assumption) (by assumption)] | rw [no1 x4 x5 (by assumption)] | rw [no2 x4 x5 (by assumption)] | rw [yes x6 x7 (by assumption) (by assumption)] | rw [no1 x6 x7 (by assumption)] | rw [no2 x6 x7 (by assumption)] | rw [yes x8 x9 (by assumption) (by assumption)] | rw [no1 x8 x9 (by assumption)] | rw [no2 x8 x9 (by assumption)]))

    all_goals omega)

  exact hs

theorem degree_r {x0 x1 x2 x3 x4 x5 x6 x7 x8 x9 : Int} (r1 : I64 x1) (r2 : I64 x2) (r3 : I64 x3) (h4 : R20 x4) (h5 : R20 x5) (h6 : R20 x6) (h7 : R20 x7) (h8 : R20 x8) (h9 : R20 x9) :

    Spec Tryz.prog etalonref06_DegreeOf_s ⟨[x0, x1, x2, x3, x4, x5, x6, x7, x8, x9], [], []⟩ [dgL x4 x5 x6 x7 x8 x9 / 1048576, cdiv (dgH x4 x5 x6 x7 x8 x9) 1048576] [] [] ∧

    Spec Tryz.prog etalonref06_Possible_s ⟨[x0, x1, x2, x3, x4, x5, x6, x7, x8, x9], [], []⟩ [posN (dgL x4 x5 x6 x7 x8 x9) (dgH x4 x5 x6 x7 x8 x9)] [] [] := by

  have b1 := sqLH h4 h5

  have b2 := sqLH h6 h7

  have b3 := sqLH h8 h9

  have hq := squares_r (x0 := x0) r1 r2 r3 h4 h5 h6 h7 h8 h9

  have r : ∀ a, R20 a → I64 a := fun a h => ⟨by have := h.1; omega, by have := h.2; omega⟩

  have hl : 0 ≤ dgL x4 x5 x6 x7 x8 x9 ∧ dgL x4 x5 x6 x7 x8 x9 ≤ 4398046511104 := by unfold dgL; omega

  have hh : 0 ≤ dgH x4 x5 x6 x7 x8 x9 ∧ dgH x4 x5 x6 x7 x8 x9 ≤ 4398046511104 := by unfold dgH; omega

  obtain ⟨a, b, ⟨rfl, rfl⟩, h1⟩ := rdg r1 r2 r3 (r _ h4) (r _ h5) (r _ h6) (r _ h7) (r _ h8) (r _ h9) (R := fun a b => a = dgL x4 x5 x6 x7 x8 x9 / 1048576 ∧ b = cdiv (dgH x4 x5 x6 x7 x8 x9) 1048576) ⟨_, _, hq, _, floor_s (by omega) (by decide), _, ceil_s (by omega) (by decide), rfl, rfl⟩

  obtain ⟨a, rfl, h2⟩ := rpos r1 r2 r3 (r _ h4) (r _ h5) (r _ h6) (r _ h7) (r _ h8) (r _ h9) (R := fun a => a = posN (dgL x4 x5 x6 x7 x8 x9) (dgH x4 x5 x6 x7 x8 x9)) ⟨_, _, hq, by

      simp only [decide_eq_true_eq, decide_eq_false_iff_not]

      unfold posN

      exact ⟨fun h => ⟨fun g => by rw [if_pos h, if_pos g], fun g => by rw [if_pos h, if_neg g]⟩, fun h => by rw [if_neg h]⟩⟩

  exact ⟨h1, h2⟩

end Go.Proofs.YtbeflbedopjhpaaGreat.Ev
