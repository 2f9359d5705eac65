/- Ratios of sums. -/
import Derived.Test.YtpjcjdhidfnbbaaGreatFqu
import Derived.Test.YtpjcjdhidfnbbaaGreatFsm
namespace Go.Proofs.YtpjcjdhidfnbbaaGreat.Ev
set_option linter.unusedSimpArgs false
open Go Go.RowKit
set_option linter.unusedVariables false
set_option maxRecDepth 100000
def meter_Ratios_s : Sig := ⟨58, ⟨6, 0, 0⟩, ⟨5, 0, 0⟩, [(.agg [(.int .i64 (.var 0)), (.int .i64 (.var 1)), (.int .i64 (.var 2)), (.int .i64 (.var 3)), (.int .i64 (.var 4)), (.int .i64 (.var 5))])], [], (.tuple [(.agg [(.int .i64 (.var 6)), (.int .i64 (.var 7)), (.int .i64 (.var 8)), (.int .i64 (.var 9))]), (.int .i64 (.var 10))]), []⟩
def etalonref06_ratio_s : Sig := ⟨101, ⟨4, 0, 0⟩, ⟨3, 0, 0⟩, [(.agg [(.int .i64 (.var 0)), (.int .i64 (.var 1))]), (.agg [(.int .i64 (.var 2)), (.int .i64 (.var 3))])], [], (.tuple [(.agg [(.int .i64 (.var 4)), (.int .i64 (.var 5))]), (.int .i64 (.var 6))]), []⟩
def etalonref06_Ratios_s : Sig := ⟨64, ⟨6, 0, 0⟩, ⟨5, 0, 0⟩, [(.agg [(.int .i64 (.var 0)), (.int .i64 (.var 1)), (.int .i64 (.var 2)), (.int .i64 (.var 3)), (.int .i64 (.var 4)), (.int .i64 (.var 5))])], [], (.tuple [(.agg [(.int .i64 (.var 6)), (.int .i64 (.var 7)), (.int .i64 (.var 8)), (.int .i64 (.var 9))]), (.int .i64 (.var 10))]), []⟩

def ra_t : Tr :=
  (.call meter_CheckSums_s ⟨[(.var 0), (.var 1), (.var 2), (.var 3), (.var 4), (.var 5)], [], []⟩ ⟨[(.var 0), (.var 1), (.var 2), (.var 3), (.var 4), (.var 5), (.var 6)], [], []⟩ ⟨11, [(.agg [(.int .i64 (.var 0)), (.int .i64 (.var 1)), (.int .i64 (.var 2)), (.int .i64 (.var 3)), (.int .i64 (.var 4)), (.int .i64 (.var 5))])], [], [none, none], (.int .i64 (.var 6)), []⟩
  (.ite (.icmp .eql (.var 6) (.lit 0))
  (.call span_Quotient_s ⟨[(.bin .mulI (.bin .mulI (.lit 2) (.var 2)) (.lit 1048576)), (.var 0)], [], []⟩ ⟨[(.bin .mulI (.bin .mulI (.lit 2) (.var 2)) (.lit 1048576)), (.var 0), (.var 7), (.var 8)], [], []⟩ ⟨95, [(.int .i64 (.bin .mulI (.bin .mulI (.lit 2) (.var 2)) (.lit 1048576))), (.int .i64 (.var 0))], [], [none, none, none, none, none, none], (.agg [(.int .i64 (.var 7)), (.int .i64 (.var 8))]), []⟩
   (.call span_Quotient_s ⟨[(.bin .mulI (.bin .mulI (.lit 2) (.var 2)) (.lit 1048576)), (.var 1)], [], []⟩ ⟨[(.bin .mulI (.bin .mulI (.lit 2) (.var 2)) (.lit 1048576)), (.var 1), (.var 9), (.var 10)], [], []⟩ ⟨95, [(.int .i64 (.bin .mulI (.bin .mulI (.lit 2) (.var 2)) (.lit 1048576))), (.int .i64 (.var 1))], [], [none, none, none, none, none, none], (.agg [(.int .i64 (.var 9)), (.int .i64 (.var 10))]), []⟩
   (.call span_Quotient_s ⟨[(.bin .mulI (.bin .mulI (.lit 2) (.var 3)) (.lit 1048576)), (.var 0)], [], []⟩ ⟨[(.bin .mulI (.bin .mulI (.lit 2) (.var 3)) (.lit 1048576)), (.var 0), (.var 11), (.var 12)], [], []⟩ ⟨95, [(.int .i64 (.bin .mulI (.bin .mulI (.lit 2) (.var 3)) (.lit 1048576))), (.int .i64 (.var 0))], [], [none, none, none, none, none, none], (.agg [(.int .i64 (.var 11)), (.int .i64 (.var 12))]), []⟩
   (.call span_Quotient_s ⟨[(.bin .mulI (.bin .mulI (.lit 2) (.var 3)) (.lit 1048576)), (.var 1)], [], []⟩ ⟨[(.bin .mulI (.bin .mulI (.lit 2) (.var 3)) (.lit 1048576)), (.var 1), (.var 13), (.var 14)], [], []⟩ ⟨95, [(.int .i64 (.bin .mulI (.bin .mulI (.lit 2) (.var 3)) (.lit 1048576))), (.int .i64 (.var 1))], [], [none, none, none, none, none, none], (.agg [(.int .i64 (.var 13)), (.int .i64 (.var 14))]), []⟩
   (.call meter_cut_s ⟨[(.bin .minI (.bin .minI (.bin .minI (.var 7) (.var 9)) (.var 11)) (.var 13)), (.bin .maxI (.bin .maxI (.bin .maxI (.var 8) (.var 10)) (.var 12)) (.var 14))], [], []⟩ ⟨[(.bin .minI (.bin .minI (.bin .minI (.var 7) (.var 9)) (.var 11)) (.var 13)), (.bin .maxI (.bin .maxI (.bin .maxI (.var 8) (.var 10)) (.var 12)) (.var 14)), (.var 15), (.var 16), (.var 17)], [], []⟩ ⟨61, [(.agg [(.int .i64 (.bin .minI (.bin .minI (.bin .minI (.var 7) (.var 9)) (.var 11)) (.var 13))), (.int .i64 (.bin .maxI (.bin .maxI (.bin .maxI (.var 8) (.var 10)) (.var 12)) (.var 14)))])], [], [none, none], (.tuple [(.agg [(.int .i64 (.var 15)), (.int .i64 (.var 16))]), (.int .i64 (.var 17))]), []⟩
   (.call span_Quotient_s ⟨[(.bin .mulI (.bin .mulI (.lit 2) (.var 4)) (.lit 1048576)), (.var 0)], [], []⟩ ⟨[(.bin .mulI (.bin .mulI (.lit 2) (.var 4)) (.lit 1048576)), (.var 0), (.var 18), (.var 19)], [], []⟩ ⟨95, [(.int .i64 (.bin .mulI (.bin .mulI (.lit 2) (.var 4)) (.lit 1048576))), (.int .i64 (.var 0))], [], [none, none, none, none, none, none, none], (.agg [(.int .i64 (.var 18)), (.int .i64 (.var 19))]), []⟩
   (.call span_Quotient_s ⟨[(.bin .mulI (.bin .mulI (.lit 2) (.var 4)) (.lit 1048576)), (.var 1)], [], []⟩ ⟨[(.bin .mulI (.bin .mulI (.lit 2) (.var 4)) (.lit 1048576)), (.var 1), (.var 20), (.var 21)], [], []⟩ ⟨95, [(.int .i64 (.bin .mulI (.bin .mulI (.lit 2) (.var 4)) (.lit 1048576))), (.int .i64 (.var 1))], [], [none, none, none, none, none, none, none], (.agg [(.int .i64 (.var 20)), (.int .i64 (.var 21))]), []⟩
   (.call span_Quotient_s ⟨[(.bin .mulI (.bin .mulI (.lit 2) (.var 5)) (.lit 1048576)), (.var 0)], [], []⟩ ⟨[(.bin .mulI (.bin .mulI (.lit 2) (.var 5)) (.lit 1048576)), (.var 0), (.var 22), (.var 23)], [], []⟩ ⟨95, [(.int .i64 (.bin .mulI (.bin .mulI (.lit 2) (.var 5)) (.lit 1048576))), (.int .i64 (.var 0))], [], [none, none, none, none, none, none, none], (.agg [(.int .i64 (.var 22)), (.int .i64 (.var 23))]), []⟩
   (.call span_Quotient_s ⟨[(.bin .mulI (.bin .mulI (.lit 2) (.var 5)) (.lit 1048576)), (.var 1)], [], []⟩ ⟨[(.bin .mulI (.bin .mulI (.lit 2) (.var 5)) (.lit 1048576)), (.var 1), (.var 24), (.var 25)], [], []⟩ ⟨95, [(.int .i64 (.bin .mulI (.bin .mulI (.lit 2) (.var 5)) (.lit 1048576))), (.int .i64 (.var 1))], [], [none, none, none, none, none, none, none], (.agg [(.int .i64 (.var 24)), (.int .i64 (.var 25))]), []⟩
   (.call meter_cut_s ⟨[(.bin .minI (.bin .minI (.bin .minI (.var 18) (.var 20)) (.var 22)) (.var 24)), (.bin .maxI (.bin .maxI (.bin .maxI (.var 19) (.var 21)) (.var 23)) (.var 25))], [], []⟩ ⟨[(.bin .minI (.bin .minI (.bin .minI (.var 18) (.var 20)) (.var 22)) (.var 24)), (.bin .maxI (.bin .maxI (.bin .maxI (.var 19) (.var 21)) (.var 23)) (.var 25)), (.var 26), (.var 27), (.var 28)], [], []⟩ ⟨61, [(.agg [(.int .i64 (.bin .minI (.bin .minI (.bin .minI (.var 18) (.var 20)) (.var 22)) (.var 24))), (.int .i64 (.bin .maxI (.bin .maxI (.bin .maxI (.var 19) (.var 21)) (.var 23)) (.var 25)))])], [], [none, none, none], (.tuple [(.agg [(.int .i64 (.var 26)), (.int .i64 (.var 27))]), (.int .i64 (.var 28))]), []⟩
   (.ite (.icmp .eql (.var 17) (.lit 0))
   (.ite (.icmp .eql (.var 28) (.lit 0))
    (.ret ⟨[(.var 15), (.var 16), (.var 26), (.var 27), (.lit 0)], [], []⟩ [])
    (.ret ⟨[(.lit 0), (.lit 0), (.lit 0), (.lit 0), (.var 28)], [], []⟩ []))
   (.ret ⟨[(.lit 0), (.lit 0), (.lit 0), (.lit 0), (.var 17)], [], []⟩ []))))))))))))
  (.ret ⟨[(.lit 0), (.lit 0), (.lit 0), (.lit 0), (.var 6)], [], []⟩ [])))
theorem ra {x0 x1 x2 x3 x4 x5 : Int} (r0 : 1 ≤ x0 ∧ x0 ≤ 10000000) (r1 : 1 ≤ x1 ∧ x1 ≤ 10000000) (r2 : (-10000000) ≤ x2 ∧ x2 ≤ 10000000) (r3 : (-10000000) ≤ x3 ∧ x3 ≤ 10000000) (r4 : (-10000000) ≤ x4 ∧ x4 ≤ 10000000) (r5 : (-10000000) ≤ x5 ∧ x5 ≤ 10000000) {R : Int → Int → Int → Int → Int → Prop}
  (H : (∃ v6 : Int, Spec Tryz.prog meter_CheckSums_s ⟨[x0, x1, x2, x3, x4, x5], [], []⟩ [v6] [] [] ∧
   ((((v6 : Int) == 0) = true → (∃ v7 : Int, ∃ v8 : Int, Spec Tryz.prog span_Quotient_s ⟨[((2 * x2) * 1048576), x0], [], []⟩ [v7, v8] [] [] ∧
    (∃ v9 : Int, ∃ v10 : Int, Spec Tryz.prog span_Quotient_s ⟨[((2 * x2) * 1048576), x1], [], []⟩ [v9, v10] [] [] ∧
    (∃ v11 : Int, ∃ v12 : Int, Spec Tryz.prog span_Quotient_s ⟨[((2 * x3) * 1048576), x0], [], []⟩ [v11, v12] [] [] ∧
    (∃ v13 : Int, ∃ v14 : Int, Spec Tryz.prog span_Quotient_s ⟨[((2 * x3) * 1048576), x1], [], []⟩ [v13, v14] [] [] ∧
    (∃ v15 : Int, ∃ v16 : Int, ∃ v17 : Int, Spec Tryz.prog meter_cut_s ⟨[(if (v13 : Int) < (if (v11 : Int) < (if (v9 : Int) < v7 then v9 else v7) then v11 else (if (v9 : Int) < v7 then v9 else v7)) then v13 else (if (v11 : Int) < (if (v9 : Int) < v7 then v9 else v7) then v11 else (if (v9 : Int) < v7 then v9 else v7))), (if (v14 : Int) > (if (v12 : Int) > (if (v10 : Int) > v8 then v10 else v8) then v12 else (if (v10 : Int) > v8 then v10 else v8)) then v14 else (if (v12 : Int) > (if (v10 : Int) > v8 then v10 else v8) then v12 else (if (v10 : Int) > v8 then v10 else v8)))], [], []⟩ [v15, v16, v17] [] [] ∧
    (∃ v18 : Int, ∃ v19 : Int, Spec Tryz.prog span_Quotient_s ⟨[((2 * x4) * 1048576), x0], [], []⟩ [v18, v19] [] [] ∧
    (∃ v20 : Int, ∃ v21 : Int, Spec Tryz.prog span_Quotient_s ⟨[((2 * x4) * 1048576), x1], [], []⟩ [v20, v21] [] [] ∧
    (∃ v22 : Int, ∃ v23 : Int, Spec Tryz.prog span_Quotient_s ⟨[((2 * x5) * 1048576), x0], [], []⟩ [v22, v23] [] [] ∧
    (∃ v24 : Int, ∃ v25 : Int, Spec Tryz.prog span_Quotient_s ⟨[((2 * x5) * 1048576), x1], [], []⟩ [v24, v25] [] [] ∧
    (∃ v26 : Int, ∃ v27 : Int, ∃ v28 : Int, Spec Tryz.prog meter_cut_s ⟨[(if (v24 : Int) < (if (v22 : Int) < (if (v20 : Int) < v18 then v20 else v18) then v22 else (if (v20 : Int) < v18 then v20 else v18)) then v24 else (if (v22 : Int) < (if (v20 : Int) < v18 then v20 else v18) then v22 else (if (v20 : Int) < v18 then v20 else v18))), (if (v25 : Int) > (if (v23 : Int) > (if (v21 : Int) > v19 then v21 else v19) then v23 else (if (v21 : Int) > v19 then v21 else v19)) then v25 else (if (v23 : Int) > (if (v21 : Int) > v19 then v21 else v19) then v23 else (if (v21 : Int) > v19 then v21 else v19)))], [], []⟩ [v26, v27, v28] [] [] ∧
    ((((v17 : Int) == 0) = true → ((((v28 : Int) == 0) = true → R (v15) (v16) (v26) (v27) (0)) ∧
     (((v28 : Int) == 0) = false → R (0) (0) (0) (0) (v28)))) ∧
    (((v17 : Int) == 0) = false → R (0) (0) (0) (0) (v17)))))))))))))) ∧
   (((v6 : Int) == 0) = false → R (0) (0) (0) (0) (v6))))) :
    ∃ v0 : Int, ∃ v1 : Int, ∃ v2 : Int, ∃ v3 : Int, ∃ v4 : Int, R v0 v1 v2 v3 v4 ∧ Spec Tryz.prog meter_Ratios_s ⟨[x0, x1, x2, x3, x4, x5], [], []⟩ [v0, v1, v2, v3, v4] [] [] :=
  Eq.mp (by kernel_rfl) (exV_of (K := fun d => app3 meter_Ratios_s.out R d ∧ Spec Tryz.prog meter_Ratios_s ⟨[x0, x1, x2, x3, x4, x5], [], []⟩ d.1 d.2.1 d.2.2) (tree_at mixed names S1_ok (S := S1 Tryz.prog) (lf := 100000) (d := 60) meter_Ratios_s ra_t { ivs := [(0, 1, 10000000), (1, 1, 10000000), (2, (-10000000), 10000000), (3, (-10000000), 10000000), (4, (-10000000), 10000000), (5, (-10000000), 10000000)], aivs := [] } ⟨[x0, x1, x2, x3, x4, x5], [], []⟩ rfl (by kernel_rfl) (by kernel_rfl) (by kernel_rfl) ⟨(fc r0 (fc r1 (fc r2 (fc r3 (fc r4 (fc r5 fz)))))), fz, fz, fz⟩ (R := fun d => app3 meter_Ratios_s.out R d) (Eq.mp (by kernel_rfl) H)))

def rab_t : Tr :=
  (.call meter_CheckSums_s ⟨[(.var 0), (.var 1), (.var 2), (.var 3), (.var 4), (.var 5)], [], []⟩ ⟨[(.var 0), (.var 1), (.var 2), (.var 3), (.var 4), (.var 5), (.var 6)], [], []⟩ ⟨11, [(.agg [(.int .i64 (.var 0)), (.int .i64 (.var 1)), (.int .i64 (.var 2)), (.int .i64 (.var 3)), (.int .i64 (.var 4)), (.int .i64 (.var 5))])], [], [none, none], (.int .i64 (.var 6)), []⟩
  (.ite (.icmp .eql (.var 6) (.lit 0))
  (.ite (.icmp .leq (.var 0) (.lit 0))
   (.ret ⟨[(.lit 0), (.lit 0), (.lit 0), (.lit 0), (.lit 9)], [], []⟩ [])
   .nil)
  (.ret ⟨[(.lit 0), (.lit 0), (.lit 0), (.lit 0), (.var 6)], [], []⟩ [])))
theorem rab {x0 x1 x2 x3 x4 x5 : Int} (r0 : (-9223372036854775808) ≤ x0 ∧ x0 ≤ 9223372036854775807) (r1 : (-9223372036854775808) ≤ x1 ∧ x1 ≤ 9223372036854775807) (r2 : (-9223372036854775808) ≤ x2 ∧ x2 ≤ 9223372036854775807) (r3 : (-9223372036854775808) ≤ x3 ∧ x3 ≤ 9223372036854775807) (r4 : (-9223372036854775808) ≤ x4 ∧ x4 ≤ 9223372036854775807) (r5 : (-9223372036854775808) ≤ x5 ∧ x5 ≤ 9223372036854775807) {R : Int → Int → Int → Int → Int → Prop}
  (H : (∃ v6 : Int, Spec Tryz.prog meter_CheckSums_s ⟨[x0, x1, x2, x3, x4, x5], [], []⟩ [v6] [] [] ∧
   ((((v6 : Int) == 0) = true → ((decide ((x0 : Int) ≤ 0) = true → R (0) (0) (0) (0) (9)) ∧
    (decide ((x0 : Int) ≤ 0) = false → False))) ∧
   (((v6 : Int) == 0) = false → R (0) (0) (0) (0) (v6))))) :
    ∃ v0 : Int, ∃ v1 : Int, ∃ v2 : Int, ∃ v3 : Int, ∃ v4 : Int, R v0 v1 v2 v3 v4 ∧ Spec Tryz.prog meter_Ratios_s ⟨[x0, x1, x2, x3, x4, x5], [], []⟩ [v0, v1, v2, v3, v4] [] [] :=
  Eq.mp (by kernel_rfl) (exV_of (K := fun d => app3 meter_Ratios_s.out R d ∧ Spec Tryz.prog meter_Ratios_s ⟨[x0, x1, x2, x3, x4, x5], [], []⟩ d.1 d.2.1 d.2.2) (tree_at mixed names S1_ok (S := S1 Tryz.prog) (lf := 100000) (d := 60) meter_Ratios_s rab_t { ivs := [(0, (-9223372036854775808), 9223372036854775807), (1, (-9223372036854775808), 9223372036854775807), (2, (-9223372036854775808), 9223372036854775807), (3, (-9223372036854775808), 9223372036854775807), (4, (-9223372036854775808), 9223372036854775807), (5, (-9223372036854775808), 9223372036854775807)], aivs := [] } ⟨[x0, x1, x2, x3, x4, x5], [], []⟩ rfl (by kernel_rfl) (by kernel_rfl) (by kernel_rfl) ⟨(fc r0 (fc r1 (fc r2 (fc r3 (fc r4 (fc r5 fz)))))), fz, fz, fz⟩ (R := fun d => app3 meter_Ratios_s.out R d) (Eq.mp (by kernel_rfl) H)))

def rt_t : Tr :=
  (.ite (.icmp .leq (.lit 0) (.var 0))
  (.ite (.icmp .leq (.lit 0) (.var 1))
   (.call etalonbase_Floor_s ⟨[(.bin .mulI (.bin .mulI (.lit 2) (.var 0)) (.lit 1048576)), (.var 3)], [], []⟩ ⟨[(.bin .mulI (.bin .mulI (.lit 2) (.var 0)) (.lit 1048576)), (.var 3), (.var 4)], [], []⟩ ⟨75, [(.int .i64 (.bin .mulI (.bin .mulI (.lit 2) (.var 0)) (.lit 1048576))), (.int .i64 (.var 3))], [], [none, none, none], (.int .i64 (.var 4)), []⟩
    (.call etalonbase_Ceil_s ⟨[(.bin .mulI (.bin .mulI (.lit 2) (.var 1)) (.lit 1048576)), (.var 2)], [], []⟩ ⟨[(.bin .mulI (.bin .mulI (.lit 2) (.var 1)) (.lit 1048576)), (.var 2), (.var 5)], [], []⟩ ⟨76, [(.int .i64 (.bin .mulI (.bin .mulI (.lit 2) (.var 1)) (.lit 1048576))), (.int .i64 (.var 2))], [], [none, none, none], (.int .i64 (.var 5)), []⟩
    (.call etalonref06_cut_s ⟨[(.var 4), (.var 5)], [], []⟩ ⟨[(.var 4), (.var 5), (.var 6), (.var 7), (.var 8)], [], []⟩ ⟨102, [(.agg [(.int .i64 (.var 4)), (.int .i64 (.var 5))])], [], [none, none, none], (.tuple [(.agg [(.int .i64 (.var 6)), (.int .i64 (.var 7))]), (.int .i64 (.var 8))]), []⟩
    (.ret ⟨[(.var 6), (.var 7), (.var 8)], [], []⟩ []))))
   (.call etalonbase_Floor_s ⟨[(.bin .mulI (.bin .mulI (.lit 2) (.var 0)) (.lit 1048576)), (.var 3)], [], []⟩ ⟨[(.bin .mulI (.bin .mulI (.lit 2) (.var 0)) (.lit 1048576)), (.var 3), (.var 4)], [], []⟩ ⟨75, [(.int .i64 (.bin .mulI (.bin .mulI (.lit 2) (.var 0)) (.lit 1048576))), (.int .i64 (.var 3))], [], [none, none, none], (.int .i64 (.var 4)), []⟩
    (.call etalonbase_Ceil_s ⟨[(.bin .mulI (.bin .mulI (.lit 2) (.var 1)) (.lit 1048576)), (.var 3)], [], []⟩ ⟨[(.bin .mulI (.bin .mulI (.lit 2) (.var 1)) (.lit 1048576)), (.var 3), (.var 5)], [], []⟩ ⟨76, [(.int .i64 (.bin .mulI (.bin .mulI (.lit 2) (.var 1)) (.lit 1048576))), (.int .i64 (.var 3))], [], [none, none, none], (.int .i64 (.var 5)), []⟩
    (.call etalonref06_cut_s ⟨[(.var 4), (.var 5)], [], []⟩ ⟨[(.var 4), (.var 5), (.var 6), (.var 7), (.var 8)], [], []⟩ ⟨102, [(.agg [(.int .i64 (.var 4)), (.int .i64 (.var 5))])], [], [none, none, none], (.tuple [(.agg [(.int .i64 (.var 6)), (.int .i64 (.var 7))]), (.int .i64 (.var 8))]), []⟩
    (.ret ⟨[(.var 6), (.var 7), (.var 8)], [], []⟩ [])))))
  (.ite (.icmp .leq (.lit 0) (.var 1))
   (.call etalonbase_Floor_s ⟨[(.bin .mulI (.bin .mulI (.lit 2) (.var 0)) (.lit 1048576)), (.var 2)], [], []⟩ ⟨[(.bin .mulI (.bin .mulI (.lit 2) (.var 0)) (.lit 1048576)), (.var 2), (.var 4)], [], []⟩ ⟨75, [(.int .i64 (.bin .mulI (.bin .mulI (.lit 2) (.var 0)) (.lit 1048576))), (.int .i64 (.var 2))], [], [none, none, none], (.int .i64 (.var 4)), []⟩
    (.call etalonbase_Ceil_s ⟨[(.bin .mulI (.bin .mulI (.lit 2) (.var 1)) (.lit 1048576)), (.var 2)], [], []⟩ ⟨[(.bin .mulI (.bin .mulI (.lit 2) (.var 1)) (.lit 1048576)), (.var 2), (.var 5)], [], []⟩ ⟨76, [(.int .i64 (.bin .mulI (.bin .mulI (.lit 2) (.var 1)) (.lit 1048576))), (.int .i64 (.var 2))], [], [none, none, none], (.int .i64 (.var 5)), []⟩
    (.call etalonref06_cut_s ⟨[(.var 4), (.var 5)], [], []⟩ ⟨[(.var 4), (.var 5), (.var 6), (.var 7), (.var 8)], [], []⟩ ⟨102, [(.agg [(.int .i64 (.var 4)), (.int .i64 (.var 5))])], [], [none, none, none], (.tuple [(.agg [(.int .i64 (.var 6)), (.int .i64 (.var 7))]), (.int .i64 (.var 8))]), []⟩
    (.ret ⟨[(.var 6), (.var 7), (.var 8)], [], []⟩ []))))
   (.call etalonbase_Floor_s ⟨[(.bin .mulI (.bin .mulI (.lit 2) (.var 0)) (.lit 1048576)), (.var 2)], [], []⟩ ⟨[(.bin .mulI (.bin .mulI (.lit 2) (.var 0)) (.lit 1048576)), (.var 2), (.var 4)], [], []⟩ ⟨75, [(.int .i64 (.bin .mulI (.bin .mulI (.lit 2) (.var 0)) (.lit 1048576))), (.int .i64 (.var 2))], [], [none, none, none], (.int .i64 (.var 4)), []⟩
    (.call etalonbase_Ceil_s ⟨[(.bin .mulI (.bin .mulI (.lit 2) (.var 1)) (.lit 1048576)), (.var 3)], [], []⟩ ⟨[(.bin .mulI (.bin .mulI (.lit 2) (.var 1)) (.lit 1048576)), (.var 3), (.var 5)], [], []⟩ ⟨76, [(.int .i64 (.bin .mulI (.bin .mulI (.lit 2) (.var 1)) (.lit 1048576))), (.int .i64 (.var 3))], [], [none, none, none], (.int .i64 (.var 5)), []⟩
    (.call etalonref06_cut_s ⟨[(.var 4), (.var 5)], [], []⟩ ⟨[(.var 4), (.var 5), (.var 6), (.var 7), (.var 8)], [], []⟩ ⟨102, [(.agg [(.int .i64 (.var 4)), (.int .i64 (.var 5))])], [], [none, none, none], (.tuple [(.agg [(.int .i64 (.var 6)), (.int .i64 (.var 7))]), (.int .i64 (.var 8))]), []⟩
    (.ret ⟨[(.var 6), (.var 7), (.var 8)], [], []⟩ []))))))
theorem rt {x0 x1 x2 x3 : Int} (r0 : (-10000000) ≤ x0 ∧ x0 ≤ 10000000) (r1 : (-10000000) ≤ x1 ∧ x1 ≤ 10000000) (r2 : 1 ≤ x2 ∧ x2 ≤ 10000000) (r3 : 1 ≤ x3 ∧ x3 ≤ 10000000) {R : Int → Int → Int → Prop}
  (H : ((decide ((0 : Int) ≤ x0) = true → ((decide ((0 : Int) ≤ x1) = true → (∃ v4 : Int, Spec Tryz.prog etalonbase_Floor_s ⟨[((2 * x0) * 1048576), x3], [], []⟩ [v4] [] [] ∧
     (∃ v5 : Int, Spec Tryz.prog etalonbase_Ceil_s ⟨[((2 * x1) * 1048576), x2], [], []⟩ [v5] [] [] ∧
     (∃ v6 : Int, ∃ v7 : Int, ∃ v8 : Int, Spec Tryz.prog etalonref06_cut_s ⟨[v4, v5], [], []⟩ [v6, v7, v8] [] [] ∧
     R (v6) (v7) (v8))))) ∧
    (decide ((0 : Int) ≤ x1) = false → (∃ v4 : Int, Spec Tryz.prog etalonbase_Floor_s ⟨[((2 * x0) * 1048576), x3], [], []⟩ [v4] [] [] ∧
     (∃ v5 : Int, Spec Tryz.prog etalonbase_Ceil_s ⟨[((2 * x1) * 1048576), x3], [], []⟩ [v5] [] [] ∧
     (∃ v6 : Int, ∃ v7 : Int, ∃ v8 : Int, Spec Tryz.prog etalonref06_cut_s ⟨[v4, v5], [], []⟩ [v6, v7, v8] [] [] ∧
     R (v6) (v7) (v8))))))) ∧
   (decide ((0 : Int) ≤ x0) = false → ((decide ((0 : Int) ≤ x1) = true → (∃ v4 : Int, Spec Tryz.prog etalonbase_Floor_s ⟨[((2 * x0) * 1048576), x2], [], []⟩ [v4] [] [] ∧
     (∃ v5 : Int, Spec Tryz.prog etalonbase_Ceil_s ⟨[((2 * x1) * 1048576), x2], [], []⟩ [v5] [] [] ∧
     (∃ v6 : Int, ∃ v7 : Int, ∃ v8 : Int, Spec Tryz.prog etalonref06_cut_s ⟨[v4, v5], [], []⟩ [v6, v7, v8] [] [] ∧
     R (v6) (v7) (v8))))) ∧
    (decide ((0 : Int) ≤ x1) = false → (∃ v4 : Int, Spec Tryz.prog etalonbase_Floor_s ⟨[((2 * x0) * 1048576), x2], [], []⟩ [v4] [] [] ∧
     (∃ v5 : Int, Spec Tryz.prog etalonbase_Ceil_s ⟨[((2 * x1) * 1048576), x3], [], []⟩ [v5] [] [] ∧
     (∃ v6 : Int, ∃ v7 : Int, ∃ v8 : Int, Spec Tryz.prog etalonref06_cut_s ⟨[v4, v5], [], []⟩ [v6, v7, v8] [] [] ∧
     R (v6) (v7) (v8))))))))) :
    ∃ v0 : Int, ∃ v1 : Int, ∃ v2 : Int, R v0 v1 v2 ∧ Spec Tryz.prog etalonref06_ratio_s ⟨[x0, x1, x2, x3], [], []⟩ [v0, v1, v2] [] [] :=
  Eq.mp (by kernel_rfl) (exV_of (K := fun d => app3 etalonref06_ratio_s.out R d ∧ Spec Tryz.prog etalonref06_ratio_s ⟨[x0, x1, x2, x3], [], []⟩ d.1 d.2.1 d.2.2) (tree_at mixed names S1_ok (S := S1 Tryz.prog) (lf := 100000) (d := 60) etalonref06_ratio_s rt_t { ivs := [(0, (-10000000), 10000000), (1, (-10000000), 10000000), (2, 1, 10000000), (3, 1, 10000000)], aivs := [] } ⟨[x0, x1, x2, x3], [], []⟩ rfl (by kernel_rfl) (by kernel_rfl) (by kernel_rfl) ⟨(fc r0 (fc r1 (fc r2 (fc r3 fz)))), fz, fz, fz⟩ (R := fun d => app3 etalonref06_ratio_s.out R d) (Eq.mp (by kernel_rfl) H)))

def rr_t : Tr :=
  (.ite (.icmp .leq (.var 0) (.lit 0))
  (.ret ⟨[(.lit 0), (.lit 0), (.lit 0), (.lit 0), (.lit 9)], [], []⟩ [])
  (.call etalonref06_ratio_s ⟨[(.var 2), (.var 3), (.var 0), (.var 1)], [], []⟩ ⟨[(.var 2), (.var 3), (.var 0), (.var 1), (.var 6), (.var 7), (.var 8)], [], []⟩ ⟨101, [(.agg [(.int .i64 (.var 2)), (.int .i64 (.var 3))]), (.agg [(.int .i64 (.var 0)), (.int .i64 (.var 1))])], [], [none, none], (.tuple [(.agg [(.int .i64 (.var 6)), (.int .i64 (.var 7))]), (.int .i64 (.var 8))]), []⟩
   (.ite (.icmp .eql (.var 8) (.lit 0))
   (.call etalonref06_ratio_s ⟨[(.var 4), (.var 5), (.var 0), (.var 1)], [], []⟩ ⟨[(.var 4), (.var 5), (.var 0), (.var 1), (.var 9), (.var 10), (.var 11)], [], []⟩ ⟨101, [(.agg [(.int .i64 (.var 4)), (.int .i64 (.var 5))]), (.agg [(.int .i64 (.var 0)), (.int .i64 (.var 1))])], [], [none, none, none], (.tuple [(.agg [(.int .i64 (.var 9)), (.int .i64 (.var 10))]), (.int .i64 (.var 11))]), []⟩
    (.ite (.icmp .eql (.var 11) (.lit 0))
    (.ret ⟨[(.var 6), (.var 7), (.var 9), (.var 10), (.lit 0)], [], []⟩ [])
    (.ret ⟨[(.lit 0), (.lit 0), (.lit 0), (.lit 0), (.var 11)], [], []⟩ [])))
   (.ret ⟨[(.lit 0), (.lit 0), (.lit 0), (.lit 0), (.var 8)], [], []⟩ []))))
theorem rr {x0 x1 x2 x3 x4 x5 : Int} (r0 : (-9223372036854775808) ≤ x0 ∧ x0 ≤ 9223372036854775807) (r1 : (-9223372036854775808) ≤ x1 ∧ x1 ≤ 9223372036854775807) (r2 : (-9223372036854775808) ≤ x2 ∧ x2 ≤ 9223372036854775807) (r3 : (-9223372036854775808) ≤ x3 ∧ x3 ≤ 9223372036854775807) (r4 : (-9223372036854775808) ≤ x4 ∧ x4 ≤ 9223372036854775807) (r5 : (-9223372036854775808) ≤ x5 ∧ x5 ≤ 9223372036854775807) {R : Int → Int → Int → Int → Int → Prop}
  (H : ((decide ((x0 : Int) ≤ 0) = true → R (0) (0) (0) (0) (9)) ∧
   (decide ((x0 : Int) ≤ 0) = false → (∃ v6 : Int, ∃ v7 : Int, ∃ v8 : Int, Spec Tryz.prog etalonref06_ratio_s ⟨[x2, x3, x0, x1], [], []⟩ [v6, v7, v8] [] [] ∧
    ((((v8 : Int) == 0) = true → (∃ v9 : Int, ∃ v10 : Int, ∃ v11 : Int, Spec Tryz.prog etalonref06_ratio_s ⟨[x4, x5, x0, x1], [], []⟩ [v9, v10, v11] [] [] ∧
     ((((v11 : Int) == 0) = true → R (v6) (v7) (v9) (v10) (0)) ∧
     (((v11 : Int) == 0) = false → R (0) (0) (0) (0) (v11))))) ∧
    (((v8 : Int) == 0) = false → R (0) (0) (0) (0) (v8))))))) :
    ∃ v0 : Int, ∃ v1 : Int, ∃ v2 : Int, ∃ v3 : Int, ∃ v4 : Int, R v0 v1 v2 v3 v4 ∧ Spec Tryz.prog etalonref06_Ratios_s ⟨[x0, x1, x2, x3, x4, x5], [], []⟩ [v0, v1, v2, v3, v4] [] [] :=
  Eq.mp (by kernel_rfl) (exV_of (K := fun d => app3 etalonref06_Ratios_s.out R d ∧ Spec Tryz.prog etalonref06_Ratios_s ⟨[x0, x1, x2, x3, x4, x5], [], []⟩ d.1 d.2.1 d.2.2) (tree_at mixed names S1_ok (S := S1 Tryz.prog) (lf := 100000) (d := 60) etalonref06_Ratios_s rr_t { ivs := [(0, (-9223372036854775808), 9223372036854775807), (1, (-9223372036854775808), 9223372036854775807), (2, (-9223372036854775808), 9223372036854775807), (3, (-9223372036854775808), 9223372036854775807), (4, (-9223372036854775808), 9223372036854775807), (5, (-9223372036854775808), 9223372036854775807)], aivs := [] } ⟨[x0, x1, x2, x3, x4, x5], [], []⟩ rfl (by kernel_rfl) (by kernel_rfl) (by kernel_rfl) ⟨(fc r0 (fc r1 (fc r2 (fc r3 (fc r4 (fc r5 fz)))))), fz, fz, fz⟩ (R := fun d => app3 etalonref06_Ratios_s.out R d) (Eq.mp (by kernel_rfl) H)))

/-- Twice a number in parts of One, divided by a range of numbers above 0: the ends. -/

def raL (a L H : Int) : Int := 2 * a * 1048576 / (if 0 ≤ a then H else L)

def raH (b L H : Int) : Int := cdiv (2 * b * 1048576) (if 0 ≤ b then L else H)

theorem div_mono_d {A L H : Int} (hL : 1 ≤ L) (hH : L ≤ H) : (0 ≤ A → A / H ≤ A / L) ∧ (A ≤ 0 → A / L ≤ A / H) := by

  constructor

  · intro h

    have e1 := Int.mul_ediv_add_emod A H

    have e2 := Int.emod_nonneg A (show H ≠ 0 by omega)

    have q : 0 ≤ A / H := Int.ediv_nonneg h (by omega)

    rw [Int.le_ediv_iff_mul_le (by omega)]

    have : A / H * L ≤ A / H * H := Int.mul_le_mul_of_nonneg_left hH q

    rw [Int.mul_comm (A / H) H] at this

    omega

  · intro h

    have e1 := Int.mul_ediv_add_emod A L

    have e2 := Int.emod_nonneg A (show L ≠ 0 by omega)

    have q : A / L ≤ 0 := by

      have : A / L < 1 := by rw [Int.ediv_lt_iff_lt_mul (by omega)]; omega

      omega

    rw [Int.le_ediv_iff_mul_le (by omega)]

    have : A / L * H ≤ A / L * L := Int.mul_le_mul_of_nonpos_left q hH

    rw [Int.mul_comm (A / L) L] at this

    omega

theorem cdiv_mono_d {A L H : Int} (hL : 1 ≤ L) (hH : L ≤ H) : (0 ≤ A → cdiv A H ≤ cdiv A L) ∧ (A ≤ 0 → cdiv A L ≤ cdiv A H) := by

  have h := div_mono_d (A := -A) hL hH

  unfold cdiv

  exact ⟨fun g => by have := h.2 (by omega); omega, fun g => by have := h.1 (by omega); omega⟩

theorem four_min {a b L H : Int} (hL : 1 ≤ L) (hH : L ≤ H) (hab : a ≤ b) : min (min (min (2 * a * 1048576 / L) (2 * a * 1048576 / H)) (2 * b * 1048576 / L)) (2 * b * 1048576 / H) = raL a L H := by

  have h1 := div_mono_d (A := 2 * a * 1048576) hL hH

  have h3 : 2 * a * 1048576 / L ≤ 2 * b * 1048576 / L := Int.ediv_le_ediv (by omega) (by omega)

  have h4 : 2 * a * 1048576 / H ≤ 2 * b * 1048576 / H := Int.ediv_le_ediv (by omega) (by omega)

  unfold raL

  split

  · have := h1.1 (by omega); omega

  · have := h1.2 (by omega); omega

theorem four_max {a b L H : Int} (hL : 1 ≤ L) (hH : L ≤ H) (hab : a ≤ b) : max (max (max (cdiv (2 * a * 1048576) L) (cdiv (2 * a * 1048576) H)) (cdiv (2 * b * 1048576) L)) (cdiv (2 * b * 1048576) H) = raH b L H := by

  have h1 := cdiv_mono_d (A := 2 * b * 1048576) hL hH

  have h3 : cdiv (2 * a * 1048576) L ≤ cdiv (2 * b * 1048576) L := by

    have : -(2 * b * 1048576) / L ≤ -(2 * a * 1048576) / L := Int.ediv_le_ediv (by omega) (by omega)

    unfold cdiv; omega

  have h4 : cdiv (2 * a * 1048576) H ≤ cdiv (2 * b * 1048576) H := by

    have : -(2 * b * 1048576) / H ≤ -(2 * a * 1048576) / H := Int.ediv_le_ediv (by omega) (by omega)

    unfold cdiv; omega

  unfold raH

  split

  · have := h1.1 (by omega); omega

  · have := h1.2 (by omega); omega

theorem ra_rng {a L H : Int} (ha : (-10000000) ≤ a ∧ a ≤ 10000000) (hL : 1 ≤ L ∧ L ≤ 10000000) (hH : 1 ≤ H ∧ H ≤ 10000000) : ((-100000000000000) ≤ raL a L H ∧ raL a L H ≤ 100000000000000) ∧ ((-100000000000000) ≤ raH a L H ∧ raH a L H ≤ 100000000000000) := by

  have h : ∀ d : Int, 1 ≤ d → ((-100000000000000) ≤ 2 * a * 1048576 / d ∧ 2 * a * 1048576 / d ≤ 100000000000000) := fun d hd => ediv_abs' (by omega) (by omega) (by omega) (by omega)

  have g : ∀ d : Int, 1 ≤ d → ((-100000000000000) ≤ -(2 * a * 1048576) / d ∧ -(2 * a * 1048576) / d ≤ 100000000000000) := fun d hd => ediv_abs' (by omega) (by omega) (by omega) (by omega)

  unfold raL raH cdiv

  refine ⟨h _ (by split <;> omega), ?_⟩

  have := g (if 0 ≤ a then L else H) (by split <;> omega)

  omega

/-- The ratios: their ends and their error. -/

def rtE (x0 x1 x2 x3 x4 x5 : Int) : Int := fe (smE x0 x1 x2 x3 x4 x5) (if x0 ≤ 0 then 9 else fe (cutE (raL x2 x0 x1) (raH x3 x0 x1)) (cutE (raL x4 x0 x1) (raH x5 x0 x1)))

def rtV (x0 x1 x2 x3 x4 x5 a b c d : Int) : Prop := if rtE x0 x1 x2 x3 x4 x5 = 0 then a = cutL (raL x2 x0 x1) (raH x3 x0 x1) ∧ b = cutH (raL x2 x0 x1) (raH x3 x0 x1) ∧ c = cutL (raL x4 x0 x1) (raH x5 x0 x1) ∧ d = cutH (raL x4 x0 x1) (raH x5 x0 x1) else a = 0 ∧ b = 0 ∧ c = 0 ∧ d = 0

def rtR (x0 x1 x2 x3 x4 x5 a b c d e : Int) : Prop := e = rtE x0 x1 x2 x3 x4 x5 ∧ rtV x0 x1 x2 x3 x4 x5 a b c d

set_option maxHeartbeats 8000000 in

theorem ratios_p {x0 x1 x2 x3 x4 x5 : Int} (r0 : I64 x0) (r1 : I64 x1) (r2 : I64 x2) (r3 : I64 x3) (r4 : I64 x4) (r5 : I64 x5) : ∃ a b c d : Int, rtV x0 x1 x2 x3 x4 x5 a b c d ∧ Spec Tryz.prog meter_Ratios_s ⟨[x0, x1, x2, x3, x4, x5], [], []⟩ [a, b, c, d, rtE x0 x1 x2 x3 x4 x5] [] [] := by

  have hs := checkSums_p r0 r1 r2 r3 r4 r5

  suffices h : ∃ a b c d e : Int, rtR x0 x1 x2 x3 x4 x5 a b c d e ∧ Spec Tryz.prog meter_Ratios_s ⟨[x0, x1, x2, x3, x4, x5], [], []⟩ [a, b, c, d, e] [] [] by

    obtain ⟨a, b, c, d, e, ⟨rfl, hv⟩, hp⟩ := h

    exact ⟨a, b, c, d, hv, hp⟩

  by_cases h0 : smE x0 x1 x2 x3 x4 x5 = 0

  · by_cases h1 : x0 ≤ 0

    · refine rab r0 r1 r2 r3 r4 r5 (R := rtR x0 x1 x2 x3 x4 x5) ⟨_, hs, fun _ => ⟨fun _ => ?_, fun h => absurd h1 (by simpa using h)⟩, fun h => absurd h0 (by simpa using h)⟩

      have e : rtE x0 x1 x2 x3 x4 x5 = 9 := by unfold rtE fe; rw [if_pos h0, if_pos h1]

      exact ⟨e.symm, by unfold rtV; rw [e, if_neg (by decide)]; exact ⟨rfl, rfl, rfl, rfl⟩⟩

    · obtain ⟨⟨a1, a2, a3⟩, ⟨b1, b2, b3⟩, ⟨c1, c2, c3⟩⟩ := smE_ok h0

      have qs : ∀ n d : Int, (-10000000) ≤ n ∧ n ≤ 10000000 → 1 ≤ d ∧ d ≤ 10000000 → Spec Tryz.prog span_Quotient_s ⟨[2 * n * 1048576, d], [], []⟩ [2 * n * 1048576 / d, cdiv (2 * n * 1048576) d] [] [] := fun n d hn hd => by

        have := quotient_s (x := 2 * n * 1048576) (d := d) (M := 100000000000000) (by omega) (by omega) (by omega) (by omega)

        unfold qF qC at this

        rw [if_pos (by omega), if_pos (by omega)] at this

        exact this

      have m1 := four_min (a := x2) (b := x3) (L := x0) (H := x1) (by omega) (by omega) (by omega)

      have m2 := four_max (a := x2) (b := x3) (L := x0) (H := x1) (by omega) (by omega) (by omega)

      have m3 := four_min (a := x4) (b := x5) (L := x0) (H := x1) (by omega) (by omega) (by omega)

      have m4 := four_max (a := x4) (b := x5) (L := x0) (H := x1) (by omega) (by omega) (by omega)

      have g2 := ra_rng (a := x2) (L := x0) (H := x1) (by omega) (by omega) (by omega)

      have g3 := ra_rng (a := x3) (L := x0) (H := x1) (by omega) (by omega) (by omega)

      have g4 := ra_rng (a := x4) (L := x0) (H := x1) (by omega) (by omega) (by omega)

      have g5 := ra_rng (a := x5) (L := x0) (H := x1) (by omega) (by omega) (by omega)

      have k1 := cut_p (x0 := raL x2 x0 x1) (x1 := raH x3 x0 x1) (by omega) (by omega)

      have k2 := cut_p (x0 := raL x4 x0 x1) (x1 := raH x5 x0 x1) (by omega) (by omega)

      have e : rtE x0 x1 x2 x3 x4 x5 = fe (cutE (raL x2 x0 x1) (raH x3 x0 x1)) (cutE (raL x4 x0 x1) (raH x5 x0 x1)) := by unfold rtE; rw [show fe (smE x0 x1 x2 x3 x4 x5) _ = _ from if_pos h0, if_neg h1]

      refine ra (by omega) (by omega) b1 b2 c1 c2 (R := rtR x0 x1 x2 x3 x4 x5) ⟨_, hs, fun _ => ⟨_, _, qs x2 x0 b1 (by omega), _, _, qs x2 x1 b1 (by omega), _, _, qs x3 x0 b2 (by omega), _, _, qs x3 x1 b2 (by omega), ?_⟩, fun h => absurd h0 (by simpa using h)⟩

      simp only [ite_min, ite_max]

      rw [m1, m2]

      refine ⟨_, _, _, k1, _, _, qs x4 x0 c1 (by omega), _, _, qs x4 x1 c1 (by omega), _, _, qs x5 x0 c2 (by omega), _, _, qs x5 x1 c2 (by omega), ?_⟩

      rw [m3, m4]

      refine ⟨_, _, _, k2, ?_⟩

      simp only [beq_iff_eq, beq_eq_false_iff_ne, ne_eq]

      unfold rtR rtV

      rw [e]

      unfold fe

      refine ⟨fun h2 => ⟨fun h3 => ?_, fun h3 => ?_⟩, fun h2 => ?_⟩

      · rw [if_pos h2, h3, if_pos rfl]; exact ⟨rfl, rfl, rfl, rfl, rfl⟩

      · rw [if_pos h2, if_neg h3]; exact ⟨rfl, rfl, rfl, rfl, rfl⟩

      · rw [if_neg h2, if_neg h2]; exact ⟨rfl, rfl, rfl, rfl, rfl⟩

  · have e : rtE x0 x1 x2 x3 x4 x5 = smE x0 x1 x2 x3 x4 x5 := by unfold rtE fe; rw [if_neg h0]

    refine rab r0 r1 r2 r3 r4 r5 (R := rtR x0 x1 x2 x3 x4 x5) ⟨_, hs, fun h => absurd (by simpa using h) h0, fun _ => ⟨e.symm, by unfold rtV; rw [e, if_neg h0]; exact ⟨rfl, rfl, rfl, rfl⟩⟩⟩

theorem ratio_r {x0 x1 x2 x3 : Int} (r0 : (-10000000) ≤ x0 ∧ x0 ≤ 10000000) (r1 : (-10000000) ≤ x1 ∧ x1 ≤ 10000000) (r2 : 1 ≤ x2 ∧ x2 ≤ 10000000) (r3 : 1 ≤ x3 ∧ x3 ≤ 10000000) :

    Spec Tryz.prog etalonref06_ratio_s ⟨[x0, x1, x2, x3], [], []⟩ [cutL (raL x0 x2 x3) (raH x1 x2 x3), cutH (raL x0 x2 x3) (raH x1 x2 x3), cutE (raL x0 x2 x3) (raH x1 x2 x3)] [] [] := by

  have g0 := ra_rng (a := x0) (L := x2) (H := x3) r0 r2 r3

  have g1 := ra_rng (a := x1) (L := x2) (H := x3) r1 r2 r3

  have k := cut_r (x0 := raL x0 x2 x3) (x1 := raH x1 x2 x3) (by omega) (by omega)

  have fs : ∀ d : Int, 1 ≤ d ∧ d ≤ 10000000 → Spec Tryz.prog etalonbase_Floor_s ⟨[2 * x0 * 1048576, d], [], []⟩ [2 * x0 * 1048576 / d] [] [] := fun d hd => floor_s (by omega) (by omega)

  have cs : ∀ d : Int, 1 ≤ d ∧ d ≤ 10000000 → Spec Tryz.prog etalonbase_Ceil_s ⟨[2 * x1 * 1048576, d], [], []⟩ [cdiv (2 * x1 * 1048576) d] [] [] := fun d hd => ceil_s (by omega) (by omega)

  obtain ⟨a, b, c, ⟨rfl, rfl, rfl⟩, hs⟩ := rt r0 r1 r2 r3 (R := fun a b c => a = cutL (raL x0 x2 x3) (raH x1 x2 x3) ∧ b = cutH (raL x0 x2 x3) (raH x1 x2 x3) ∧ c = cutE (raL x0 x2 x3) (raH x1 x2 x3)) (by

    simp only [decide_eq_true_eq, decide_eq_false_iff_not]

    unfold raL raH at k ⊢

    refine ⟨fun h0 => ⟨fun h1 => ?_, fun h1 => ?_⟩, fun h0 => ⟨fun h1 => ?_, fun h1 => ?_⟩⟩

    · rw [if_pos h0, if_pos h1] at k ⊢; exact ⟨_, fs x3 r3, _, cs x2 r2, _, _, _, k, rfl, rfl, rfl⟩

    · rw [if_pos h0, if_neg h1] at k ⊢; exact ⟨_, fs x3 r3, _, cs x3 r3, _, _, _, k, rfl, rfl, rfl⟩

    · rw [if_neg h0, if_pos h1] at k ⊢; exact ⟨_, fs x2 r2, _, cs x2 r2, _, _, _, k, rfl, rfl, rfl⟩

    · rw [if_neg h0, if_neg h1] at k ⊢; exact ⟨_, fs x2 r2, _, cs x3 r3, _, _, _, k, rfl, rfl, rfl⟩)

  exact hs

theorem ratios_r {x0 x1 x2 x3 x4 x5 : Int} (r0 : I64 x0) (r1 : I64 x1) (r2 : I64 x2) (r3 : I64 x3) (r4 : I64 x4) (r5 : I64 x5) (h0 : smE x0 x1 x2 x3 x4 x5 = 0) : ∃ a b c d : Int, rtV x0 x1 x2 x3 x4 x5 a b c d ∧ Spec Tryz.prog etalonref06_Ratios_s ⟨[x0, x1, x2, x3, x4, x5], [], []⟩ [a, b, c, d, rtE x0 x1 x2 x3 x4 x5] [] [] := by

  suffices h : ∃ a b c d e : Int, rtR x0 x1 x2 x3 x4 x5 a b c d e ∧ Spec Tryz.prog etalonref06_Ratios_s ⟨[x0, x1, x2, x3, x4, x5], [], []⟩ [a, b, c, d, e] [] [] by

    obtain ⟨a, b, c, d, e, ⟨rfl, hv⟩, hp⟩ := h

    exact ⟨a, b, c, d, hv, hp⟩

  obtain ⟨⟨a1, a2, a3⟩, ⟨b1, b2, b3⟩, ⟨c1, c2, c3⟩⟩ := smE_ok h0

  refine rr r0 r1 r2 r3 r4 r5 (R := rtR x0 x1 x2 x3 x4 x5) ?_

  simp only [decide_eq_true_eq, decide_eq_false_iff_not, beq_iff_eq, beq_eq_false_iff_ne, ne_eq]

  refine ⟨fun h1 => ?_, fun h1 => ?_⟩

  · have e : rtE x0 x1 x2 x3 x4 x5 = 9 := by unfold rtE fe; rw [if_pos h0, if_pos h1]

    exact ⟨e.symm, by unfold rtV; rw [e, if_neg (by decide)]; exact ⟨rfl, rfl, rfl, rfl⟩⟩

  · have e : rtE x0 x1 x2 x3 x4 x5 = fe (cutE (raL x2 x0 x1) (raH x3 x0 x1)) (cutE (raL x4 x0 x1) (raH x5 x0 x1)) := by unfold rtE; rw [show fe (smE x0 x1 x2 x3 x4 x5) _ = _ from if_pos h0, if_neg h1]

    refine ⟨_, _, _, ratio_r b1 b2 (by omega) (by omega), fun h2 => ⟨_, _, _, ratio_r c1 c2 (by omega) (by omega), fun h3 => ?_, fun h3 => ?_⟩, fun h2 => ?_⟩

    all_goals (unfold rtR rtV; rw [e]; unfold fe)

    · rw [if_pos h2, h3, if_pos rfl]; exact ⟨rfl, rfl, rfl, rfl, rfl⟩

    · rw [if_pos h2, if_neg h3]; exact ⟨rfl, rfl, rfl, rfl, rfl⟩

    · rw [if_neg h2, if_neg h2]; exact ⟨rfl, rfl, rfl, rfl, rfl⟩

theorem rtV_uniq {x0 x1 x2 x3 x4 x5 a b c d a' b' c' d' : Int} (h : rtV x0 x1 x2 x3 x4 x5 a b c d) (g : rtV x0 x1 x2 x3 x4 x5 a' b' c' d') : a = a' ∧ b = b' ∧ c = c' ∧ d = d' := by

  unfold rtV at h g

  split at h

  · rename_i hp; rw [if_pos hp] at g; omega

  · rename_i hp; rw [if_neg hp] at g; omega

end Go.Proofs.YtpjcjdhidfnbbaaGreat.Ev
