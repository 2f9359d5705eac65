/- What calibrations see: program and reference. -/
import Derived.Test.YtpjcjdhidfnbbaaGreatFqu
import Derived.Test.YtpjcjdhidfnbbaaGreatFsm
namespace Go.Proofs.YtpjcjdhidfnbbaaGreat.Ev
set_option linter.unusedSimpArgs false
open Go Go.RowKit
set_option linter.unusedVariables false
set_option maxRecDepth 100000
def meter_times_s : Sig := ⟨90, ⟨3, 0, 0⟩, ⟨2, 0, 0⟩, [(.int .i64 (.var 0)), (.agg [(.int .i64 (.var 1)), (.int .i64 (.var 2))])], [], (.agg [(.int .i64 (.var 3)), (.int .i64 (.var 4))]), []⟩
def meter_over_s : Sig := ⟨68, ⟨3, 0, 0⟩, ⟨2, 0, 0⟩, [(.int .i64 (.var 0)), (.agg [(.int .i64 (.var 1)), (.int .i64 (.var 2))])], [], (.agg [(.int .i64 (.var 3)), (.int .i64 (.var 4))]), []⟩
def meter_seen_s : Sig := ⟨52, ⟨16, 0, 0⟩, ⟨6, 0, 0⟩, [(.agg [(.int .i64 (.var 0)), (.int .i64 (.var 1)), (.int .i64 (.var 2)), (.int .i64 (.var 3)), (.int .i64 (.var 4)), (.int .i64 (.var 5)), (.int .i64 (.var 6)), (.int .i64 (.var 7)), (.int .i64 (.var 8)), (.int .i64 (.var 9))]), (.agg [(.int .i64 (.var 10)), (.int .i64 (.var 11)), (.int .i64 (.var 12)), (.int .i64 (.var 13)), (.int .i64 (.var 14)), (.int .i64 (.var 15))])], [], (.agg [(.int .i64 (.var 16)), (.int .i64 (.var 17)), (.int .i64 (.var 18)), (.int .i64 (.var 19)), (.int .i64 (.var 20)), (.int .i64 (.var 21))]), []⟩
def meter_resultingSums_s : Sig := ⟨51, ⟨6, 0, 0⟩, ⟨7, 0, 0⟩, [(.agg [(.int .i64 (.var 0)), (.int .i64 (.var 1)), (.int .i64 (.var 2)), (.int .i64 (.var 3)), (.int .i64 (.var 4)), (.int .i64 (.var 5))])], [], (.tuple [(.agg [(.int .i64 (.var 6)), (.int .i64 (.var 7)), (.int .i64 (.var 8)), (.int .i64 (.var 9)), (.int .i64 (.var 10)), (.int .i64 (.var 11))]), (.int .i64 (.var 12))]), []⟩
def meter_CheckMatrix_s : Sig := ⟨9, ⟨10, 0, 0⟩, ⟨1, 0, 0⟩, [(.agg [(.int .i64 (.var 0)), (.int .i64 (.var 1)), (.int .i64 (.var 2)), (.int .i64 (.var 3)), (.int .i64 (.var 4)), (.int .i64 (.var 5)), (.int .i64 (.var 6)), (.int .i64 (.var 7)), (.int .i64 (.var 8)), (.int .i64 (.var 9))])], [], (.int .i64 (.var 10)), []⟩
def etalonref06_CheckMatrix_s : Sig := ⟨10, ⟨10, 0, 0⟩, ⟨1, 0, 0⟩, [(.agg [(.int .i64 (.var 0)), (.int .i64 (.var 1)), (.int .i64 (.var 2)), (.int .i64 (.var 3)), (.int .i64 (.var 4)), (.int .i64 (.var 5)), (.int .i64 (.var 6)), (.int .i64 (.var 7)), (.int .i64 (.var 8)), (.int .i64 (.var 9))])], [], (.int .i64 (.var 10)), []⟩
def meter_inverse_s : Sig := ⟨53, ⟨10, 0, 0⟩, ⟨10, 0, 0⟩, [(.agg [(.int .i64 (.var 0)), (.int .i64 (.var 1)), (.int .i64 (.var 2)), (.int .i64 (.var 3)), (.int .i64 (.var 4)), (.int .i64 (.var 5)), (.int .i64 (.var 6)), (.int .i64 (.var 7)), (.int .i64 (.var 8)), (.int .i64 (.var 9))])], [], (.agg [(.int .i64 (.var 10)), (.int .i64 (.var 11)), (.int .i64 (.var 12)), (.int .i64 (.var 13)), (.int .i64 (.var 14)), (.int .i64 (.var 15)), (.int .i64 (.var 16)), (.int .i64 (.var 17)), (.int .i64 (.var 18)), (.int .i64 (.var 19))]), []⟩
def meter_Seen_s : Sig := ⟨18, ⟨16, 0, 0⟩, ⟨7, 0, 0⟩, [(.agg [(.int .i64 (.var 0)), (.int .i64 (.var 1)), (.int .i64 (.var 2)), (.int .i64 (.var 3)), (.int .i64 (.var 4)), (.int .i64 (.var 5)), (.int .i64 (.var 6)), (.int .i64 (.var 7)), (.int .i64 (.var 8)), (.int .i64 (.var 9))]), (.agg [(.int .i64 (.var 10)), (.int .i64 (.var 11)), (.int .i64 (.var 12)), (.int .i64 (.var 13)), (.int .i64 (.var 14)), (.int .i64 (.var 15))])], [], (.tuple [(.agg [(.int .i64 (.var 16)), (.int .i64 (.var 17)), (.int .i64 (.var 18)), (.int .i64 (.var 19)), (.int .i64 (.var 20)), (.int .i64 (.var 21))]), (.int .i64 (.var 22))]), []⟩
def meter_Corrected_s : Sig := ⟨19, ⟨16, 0, 0⟩, ⟨7, 0, 0⟩, [(.agg [(.int .i64 (.var 0)), (.int .i64 (.var 1)), (.int .i64 (.var 2)), (.int .i64 (.var 3)), (.int .i64 (.var 4)), (.int .i64 (.var 5)), (.int .i64 (.var 6)), (.int .i64 (.var 7)), (.int .i64 (.var 8)), (.int .i64 (.var 9))]), (.agg [(.int .i64 (.var 10)), (.int .i64 (.var 11)), (.int .i64 (.var 12)), (.int .i64 (.var 13)), (.int .i64 (.var 14)), (.int .i64 (.var 15))])], [], (.tuple [(.agg [(.int .i64 (.var 16)), (.int .i64 (.var 17)), (.int .i64 (.var 18)), (.int .i64 (.var 19)), (.int .i64 (.var 20)), (.int .i64 (.var 21))]), (.int .i64 (.var 22))]), []⟩
def etalonref06_applied_s : Sig := ⟨54, ⟨16, 0, 0⟩, ⟨7, 0, 0⟩, [(.agg [(.int .i64 (.var 0)), (.int .i64 (.var 1)), (.int .i64 (.var 2)), (.int .i64 (.var 3)), (.int .i64 (.var 4)), (.int .i64 (.var 5)), (.int .i64 (.var 6)), (.int .i64 (.var 7)), (.int .i64 (.var 8))]), (.int .i64 (.var 9)), (.agg [(.int .i64 (.var 10)), (.int .i64 (.var 11)), (.int .i64 (.var 12)), (.int .i64 (.var 13)), (.int .i64 (.var 14)), (.int .i64 (.var 15))])], [], (.tuple [(.agg [(.int .i64 (.var 16)), (.int .i64 (.var 17)), (.int .i64 (.var 18)), (.int .i64 (.var 19)), (.int .i64 (.var 20)), (.int .i64 (.var 21))]), (.int .i64 (.var 22))]), []⟩
def etalonref06_Seen_s : Sig := ⟨20, ⟨16, 0, 0⟩, ⟨7, 0, 0⟩, [(.agg [(.int .i64 (.var 0)), (.int .i64 (.var 1)), (.int .i64 (.var 2)), (.int .i64 (.var 3)), (.int .i64 (.var 4)), (.int .i64 (.var 5)), (.int .i64 (.var 6)), (.int .i64 (.var 7)), (.int .i64 (.var 8)), (.int .i64 (.var 9))]), (.agg [(.int .i64 (.var 10)), (.int .i64 (.var 11)), (.int .i64 (.var 12)), (.int .i64 (.var 13)), (.int .i64 (.var 14)), (.int .i64 (.var 15))])], [], (.tuple [(.agg [(.int .i64 (.var 16)), (.int .i64 (.var 17)), (.int .i64 (.var 18)), (.int .i64 (.var 19)), (.int .i64 (.var 20)), (.int .i64 (.var 21))]), (.int .i64 (.var 22))]), []⟩
def etalonbase_Size_s : Sig := ⟨56, ⟨1, 0, 0⟩, ⟨1, 0, 0⟩, [(.int .i64 (.var 0))], [], (.int .i64 (.var 1)), []⟩
def etalonref06_Corrected_s : Sig := ⟨21, ⟨16, 0, 0⟩, ⟨7, 0, 0⟩, [(.agg [(.int .i64 (.var 0)), (.int .i64 (.var 1)), (.int .i64 (.var 2)), (.int .i64 (.var 3)), (.int .i64 (.var 4)), (.int .i64 (.var 5)), (.int .i64 (.var 6)), (.int .i64 (.var 7)), (.int .i64 (.var 8)), (.int .i64 (.var 9))]), (.agg [(.int .i64 (.var 10)), (.int .i64 (.var 11)), (.int .i64 (.var 12)), (.int .i64 (.var 13)), (.int .i64 (.var 14)), (.int .i64 (.var 15))])], [], (.tuple [(.agg [(.int .i64 (.var 16)), (.int .i64 (.var 17)), (.int .i64 (.var 18)), (.int .i64 (.var 19)), (.int .i64 (.var 20)), (.int .i64 (.var 21))]), (.int .i64 (.var 22))]), []⟩

def ti_t : Tr :=
  (.ret ⟨[(.bin .minI (.bin .mulI (.var 0) (.var 1)) (.bin .mulI (.var 0) (.var 2))), (.bin .maxI (.bin .mulI (.var 0) (.var 1)) (.bin .mulI (.var 0) (.var 2)))], [], []⟩ [])
theorem ti {x0 x1 x2 : Int} (r0 : (-2000000000) ≤ x0 ∧ x0 ≤ 2000000000) (r1 : (-10000000) ≤ x1 ∧ x1 ≤ 10000000) (r2 : (-10000000) ≤ x2 ∧ x2 ≤ 10000000) {R : Int → Int → Prop}
  (H : R ((if ((x0 * x2) : Int) < (x0 * x1) then (x0 * x2) else (x0 * x1))) ((if ((x0 * x2) : Int) > (x0 * x1) then (x0 * x2) else (x0 * x1)))) :
    ∃ v0 : Int, ∃ v1 : Int, R v0 v1 ∧ Spec Tryz.prog meter_times_s ⟨[x0, x1, x2], [], []⟩ [v0, v1] [] [] :=
  Eq.mp (by kernel_rfl) (exV_of (K := fun d => app3 meter_times_s.out R d ∧ Spec Tryz.prog meter_times_s ⟨[x0, x1, x2], [], []⟩ d.1 d.2.1 d.2.2) (tree_at mixed names S1_ok (S := S1 Tryz.prog) (lf := 100000) (d := 60) meter_times_s ti_t { ivs := [(0, (-2000000000), 2000000000), (1, (-10000000), 10000000), (2, (-10000000), 10000000)], aivs := [] } ⟨[x0, x1, x2], [], []⟩ rfl (by kernel_rfl) (by kernel_rfl) (by kernel_rfl) ⟨(fc r0 (fc r1 (fc r2 fz))), fz, fz, fz⟩ (R := fun d => app3 meter_times_s.out R d) (Eq.mp (by kernel_rfl) H)))

def ov_t : Tr :=
  (.call span_Quotient_s ⟨[(.var 1), (.var 0)], [], []⟩ ⟨[(.var 1), (.var 0), (.var 3), (.var 4)], [], []⟩ ⟨95, [(.int .i64 (.var 1)), (.int .i64 (.var 0))], [], [none, none], (.agg [(.int .i64 (.var 3)), (.int .i64 (.var 4))]), []⟩
  (.call span_Quotient_s ⟨[(.var 2), (.var 0)], [], []⟩ ⟨[(.var 2), (.var 0), (.var 5), (.var 6)], [], []⟩ ⟨95, [(.int .i64 (.var 2)), (.int .i64 (.var 0))], [], [none, none], (.agg [(.int .i64 (.var 5)), (.int .i64 (.var 6))]), []⟩
  (.ret ⟨[(.bin .minI (.var 3) (.var 5)), (.bin .maxI (.var 4) (.var 6))], [], []⟩ [])))
theorem ov {x0 x1 x2 : Int} (r0 : (-9223372036854775808) ≤ x0 ∧ x0 ≤ 9223372036854775807) (r1 : (-9223372036854775808) ≤ x1 ∧ x1 ≤ 9223372036854775807) (r2 : (-9223372036854775808) ≤ x2 ∧ x2 ≤ 9223372036854775807) {R : Int → Int → Prop}
  (H : (∃ v3 : Int, ∃ v4 : Int, Spec Tryz.prog span_Quotient_s ⟨[x1, x0], [], []⟩ [v3, v4] [] [] ∧
   (∃ v5 : Int, ∃ v6 : Int, Spec Tryz.prog span_Quotient_s ⟨[x2, x0], [], []⟩ [v5, v6] [] [] ∧
   R ((if (v5 : Int) < v3 then v5 else v3)) ((if (v6 : Int) > v4 then v6 else v4))))) :
    ∃ v0 : Int, ∃ v1 : Int, R v0 v1 ∧ Spec Tryz.prog meter_over_s ⟨[x0, x1, x2], [], []⟩ [v0, v1] [] [] :=
  Eq.mp (by kernel_rfl) (exV_of (K := fun d => app3 meter_over_s.out R d ∧ Spec Tryz.prog meter_over_s ⟨[x0, x1, x2], [], []⟩ d.1 d.2.1 d.2.2) (tree_at mixed names S1_ok (S := S1 Tryz.prog) (lf := 100000) (d := 60) meter_over_s ov_t { ivs := [(0, (-9223372036854775808), 9223372036854775807), (1, (-9223372036854775808), 9223372036854775807), (2, (-9223372036854775808), 9223372036854775807)], aivs := [] } ⟨[x0, x1, x2], [], []⟩ rfl (by kernel_rfl) (by kernel_rfl) (by kernel_rfl) ⟨(fc r0 (fc r1 (fc r2 fz))), fz, fz, fz⟩ (R := fun d => app3 meter_over_s.out R d) (Eq.mp (by kernel_rfl) H)))

def sn_t : Tr :=
  (.call meter_times_s ⟨[(.var 0), (.var 10), (.var 11)], [], []⟩ ⟨[(.var 0), (.var 10), (.var 11), (.var 16), (.var 17)], [], []⟩ ⟨90, [(.int .i64 (.var 0)), (.agg [(.int .i64 (.var 10)), (.int .i64 (.var 11))])], [], [none, none, none, none], (.agg [(.int .i64 (.var 16)), (.int .i64 (.var 17))]), []⟩
  (.rng 16 (-20000000000000000) 20000000000000000 (.rng 17 (-20000000000000000) 20000000000000000 (.call meter_times_s ⟨[(.var 1), (.var 12), (.var 13)], [], []⟩ ⟨[(.var 1), (.var 12), (.var 13), (.var 18), (.var 19)], [], []⟩ ⟨90, [(.int .i64 (.var 1)), (.agg [(.int .i64 (.var 12)), (.int .i64 (.var 13))])], [], [none, none, none, none], (.agg [(.int .i64 (.var 18)), (.int .i64 (.var 19))]), []⟩
  (.rng 18 (-20000000000000000) 20000000000000000 (.rng 19 (-20000000000000000) 20000000000000000 (.call meter_times_s ⟨[(.var 2), (.var 14), (.var 15)], [], []⟩ ⟨[(.var 2), (.var 14), (.var 15), (.var 20), (.var 21)], [], []⟩ ⟨90, [(.int .i64 (.var 2)), (.agg [(.int .i64 (.var 14)), (.int .i64 (.var 15))])], [], [none, none, none, none], (.agg [(.int .i64 (.var 20)), (.int .i64 (.var 21))]), []⟩
  (.rng 20 (-20000000000000000) 20000000000000000 (.rng 21 (-20000000000000000) 20000000000000000 (.call meter_over_s ⟨[(.var 9), (.bin .addI (.bin .addI (.var 16) (.var 18)) (.var 20)), (.bin .addI (.bin .addI (.var 17) (.var 19)) (.var 21))], [], []⟩ ⟨[(.var 9), (.bin .addI (.bin .addI (.var 16) (.var 18)) (.var 20)), (.bin .addI (.bin .addI (.var 17) (.var 19)) (.var 21)), (.var 22), (.var 23)], [], []⟩ ⟨68, [(.int .i64 (.var 9)), (.agg [(.int .i64 (.bin .addI (.bin .addI (.var 16) (.var 18)) (.var 20))), (.int .i64 (.bin .addI (.bin .addI (.var 17) (.var 19)) (.var 21)))])], [], [none, none, none, none, none], (.agg [(.int .i64 (.var 22)), (.int .i64 (.var 23))]), []⟩
  (.call meter_times_s ⟨[(.var 3), (.var 10), (.var 11)], [], []⟩ ⟨[(.var 3), (.var 10), (.var 11), (.var 24), (.var 25)], [], []⟩ ⟨90, [(.int .i64 (.var 3)), (.agg [(.int .i64 (.var 10)), (.int .i64 (.var 11))])], [], [none, none, none, none], (.agg [(.int .i64 (.var 24)), (.int .i64 (.var 25))]), []⟩
  (.rng 24 (-20000000000000000) 20000000000000000 (.rng 25 (-20000000000000000) 20000000000000000 (.call meter_times_s ⟨[(.var 4), (.var 12), (.var 13)], [], []⟩ ⟨[(.var 4), (.var 12), (.var 13), (.var 26), (.var 27)], [], []⟩ ⟨90, [(.int .i64 (.var 4)), (.agg [(.int .i64 (.var 12)), (.int .i64 (.var 13))])], [], [none, none, none, none], (.agg [(.int .i64 (.var 26)), (.int .i64 (.var 27))]), []⟩
  (.rng 26 (-20000000000000000) 20000000000000000 (.rng 27 (-20000000000000000) 20000000000000000 (.call meter_times_s ⟨[(.var 5), (.var 14), (.var 15)], [], []⟩ ⟨[(.var 5), (.var 14), (.var 15), (.var 28), (.var 29)], [], []⟩ ⟨90, [(.int .i64 (.var 5)), (.agg [(.int .i64 (.var 14)), (.int .i64 (.var 15))])], [], [none, none, none, none], (.agg [(.int .i64 (.var 28)), (.int .i64 (.var 29))]), []⟩
  (.rng 28 (-20000000000000000) 20000000000000000 (.rng 29 (-20000000000000000) 20000000000000000 (.call meter_over_s ⟨[(.var 9), (.bin .addI (.bin .addI (.var 24) (.var 26)) (.var 28)), (.bin .addI (.bin .addI (.var 25) (.var 27)) (.var 29))], [], []⟩ ⟨[(.var 9), (.bin .addI (.bin .addI (.var 24) (.var 26)) (.var 28)), (.bin .addI (.bin .addI (.var 25) (.var 27)) (.var 29)), (.var 30), (.var 31)], [], []⟩ ⟨68, [(.int .i64 (.var 9)), (.agg [(.int .i64 (.bin .addI (.bin .addI (.var 24) (.var 26)) (.var 28))), (.int .i64 (.bin .addI (.bin .addI (.var 25) (.var 27)) (.var 29)))])], [], [none, none, none, none, none], (.agg [(.int .i64 (.var 30)), (.int .i64 (.var 31))]), []⟩
  (.call meter_times_s ⟨[(.var 6), (.var 10), (.var 11)], [], []⟩ ⟨[(.var 6), (.var 10), (.var 11), (.var 32), (.var 33)], [], []⟩ ⟨90, [(.int .i64 (.var 6)), (.agg [(.int .i64 (.var 10)), (.int .i64 (.var 11))])], [], [none, none, none, none], (.agg [(.int .i64 (.var 32)), (.int .i64 (.var 33))]), []⟩
  (.rng 32 (-20000000000000000) 20000000000000000 (.rng 33 (-20000000000000000) 20000000000000000 (.call meter_times_s ⟨[(.var 7), (.var 12), (.var 13)], [], []⟩ ⟨[(.var 7), (.var 12), (.var 13), (.var 34), (.var 35)], [], []⟩ ⟨90, [(.int .i64 (.var 7)), (.agg [(.int .i64 (.var 12)), (.int .i64 (.var 13))])], [], [none, none, none, none], (.agg [(.int .i64 (.var 34)), (.int .i64 (.var 35))]), []⟩
  (.rng 34 (-20000000000000000) 20000000000000000 (.rng 35 (-20000000000000000) 20000000000000000 (.call meter_times_s ⟨[(.var 8), (.var 14), (.var 15)], [], []⟩ ⟨[(.var 8), (.var 14), (.var 15), (.var 36), (.var 37)], [], []⟩ ⟨90, [(.int .i64 (.var 8)), (.agg [(.int .i64 (.var 14)), (.int .i64 (.var 15))])], [], [none, none, none, none], (.agg [(.int .i64 (.var 36)), (.int .i64 (.var 37))]), []⟩
  (.rng 36 (-20000000000000000) 20000000000000000 (.rng 37 (-20000000000000000) 20000000000000000 (.call meter_over_s ⟨[(.var 9), (.bin .addI (.bin .addI (.var 32) (.var 34)) (.var 36)), (.bin .addI (.bin .addI (.var 33) (.var 35)) (.var 37))], [], []⟩ ⟨[(.var 9), (.bin .addI (.bin .addI (.var 32) (.var 34)) (.var 36)), (.bin .addI (.bin .addI (.var 33) (.var 35)) (.var 37)), (.var 38), (.var 39)], [], []⟩ ⟨68, [(.int .i64 (.var 9)), (.agg [(.int .i64 (.bin .addI (.bin .addI (.var 32) (.var 34)) (.var 36))), (.int .i64 (.bin .addI (.bin .addI (.var 33) (.var 35)) (.var 37)))])], [], [none, none, none, none, none], (.agg [(.int .i64 (.var 38)), (.int .i64 (.var 39))]), []⟩
  (.ret ⟨[(.var 22), (.var 23), (.var 30), (.var 31), (.var 38), (.var 39)], [], []⟩ [])))))))))))))))))))))))))))))))
theorem sn {x0 x1 x2 x3 x4 x5 x6 x7 x8 x9 x10 x11 x12 x13 x14 x15 : Int} (r0 : (-2000000000) ≤ x0 ∧ x0 ≤ 2000000000) (r1 : (-2000000000) ≤ x1 ∧ x1 ≤ 2000000000) (r2 : (-2000000000) ≤ x2 ∧ x2 ≤ 2000000000) (r3 : (-2000000000) ≤ x3 ∧ x3 ≤ 2000000000) (r4 : (-2000000000) ≤ x4 ∧ x4 ≤ 2000000000) (r5 : (-2000000000) ≤ x5 ∧ x5 ≤ 2000000000) (r6 : (-2000000000) ≤ x6 ∧ x6 ≤ 2000000000) (r7 : (-2000000000) ≤ x7 ∧ x7 ≤ 2000000000) (r8 : (-2000000000) ≤ x8 ∧ x8 ≤ 2000000000) (r9 : (-9223372036854775808) ≤ x9 ∧ x9 ≤ 9223372036854775807) (r10 : (-10000000) ≤ x10 ∧ x10 ≤ 10000000) (r11 : (-10000000) ≤ x11 ∧ x11 ≤ 10000000) (r12 : (-10000000) ≤ x12 ∧ x12 ≤ 10000000) (r13 : (-10000000) ≤ x13 ∧ x13 ≤ 10000000) (r14 : (-10000000) ≤ x14 ∧ x14 ≤ 10000000) (r15 : (-10000000) ≤ x15 ∧ x15 ≤ 10000000) {R : Int → Int → Int → Int → Int → Int → Prop}
  (H : (∃ v16 : Int, ∃ v17 : Int, Spec Tryz.prog meter_times_s ⟨[x0, x10, x11], [], []⟩ [v16, v17] [] [] ∧
   (((-20000000000000000) ≤ (v16 : Int) ∧ (v16 : Int) ≤ 20000000000000000) ∧ (((-20000000000000000) ≤ (v17 : Int) ∧ (v17 : Int) ≤ 20000000000000000) ∧ (∃ v18 : Int, ∃ v19 : Int, Spec Tryz.prog meter_times_s ⟨[x1, x12, x13], [], []⟩ [v18, v19] [] [] ∧
   (((-20000000000000000) ≤ (v18 : Int) ∧ (v18 : Int) ≤ 20000000000000000) ∧ (((-20000000000000000) ≤ (v19 : Int) ∧ (v19 : Int) ≤ 20000000000000000) ∧ (∃ v20 : Int, ∃ v21 : Int, Spec Tryz.prog meter_times_s ⟨[x2, x14, x15], [], []⟩ [v20, v21] [] [] ∧
   (((-20000000000000000) ≤ (v20 : Int) ∧ (v20 : Int) ≤ 20000000000000000) ∧ (((-20000000000000000) ≤ (v21 : Int) ∧ (v21 : Int) ≤ 20000000000000000) ∧ (∃ v22 : Int, ∃ v23 : Int, Spec Tryz.prog meter_over_s ⟨[x9, ((v16 + v18) + v20), ((v17 + v19) + v21)], [], []⟩ [v22, v23] [] [] ∧
   (∃ v24 : Int, ∃ v25 : Int, Spec Tryz.prog meter_times_s ⟨[x3, x10, x11], [], []⟩ [v24, v25] [] [] ∧
   (((-20000000000000000) ≤ (v24 : Int) ∧ (v24 : Int) ≤ 20000000000000000) ∧ (((-20000000000000000) ≤ (v25 : Int) ∧ (v25 : Int) ≤ 20000000000000000) ∧ (∃ v26 : Int, ∃ v27 : Int, Spec Tryz.prog meter_times_s ⟨[x4, x12, x13], [], []⟩ [v26, v27] [] [] ∧
   (((-20000000000000000) ≤ (v26 : Int) ∧ (v26 : Int) ≤ 20000000000000000) ∧ (((-20000000000000000) ≤ (v27 : Int) ∧ (v27 : Int) ≤ 20000000000000000) ∧ (∃ v28 : Int, ∃ v29 : Int, Spec Tryz.prog meter_times_s ⟨[x5, x14, x15], [], []⟩ [v28, v29] [] [] ∧
   (((-20000000000000000) ≤ (v28 : Int) ∧ (v28 : Int) ≤ 20000000000000000) ∧ (((-20000000000000000) ≤ (v29 : Int) ∧ (v29 : Int) ≤ 20000000000000000) ∧ (∃ v30 : Int, ∃ v31 : Int, Spec Tryz.prog meter_over_s ⟨[x9, ((v24 + v26) + v28), ((v25 + v27) + v29)], [], []⟩ [v30, v31] [] [] ∧
   (∃ v32 : Int, ∃ v33 : Int, Spec Tryz.prog meter_times_s ⟨[x6, x10, x11], [], []⟩ [v32, v33] [] [] ∧
   (((-20000000000000000) ≤ (v32 : Int) ∧ (v32 : Int) ≤ 20000000000000000) ∧ (((-20000000000000000) ≤ (v33 : Int) ∧ (v33 : Int) ≤ 20000000000000000) ∧ (∃ v34 : Int, ∃ v35 : Int, Spec Tryz.prog meter_times_s ⟨[x7, x12, x13], [], []⟩ [v34, v35] [] [] ∧
   (((-20000000000000000) ≤ (v34 : Int) ∧ (v34 : Int) ≤ 20000000000000000) ∧ (((-20000000000000000) ≤ (v35 : Int) ∧ (v35 : Int) ≤ 20000000000000000) ∧ (∃ v36 : Int, ∃ v37 : Int, Spec Tryz.prog meter_times_s ⟨[x8, x14, x15], [], []⟩ [v36, v37] [] [] ∧
   (((-20000000000000000) ≤ (v36 : Int) ∧ (v36 : Int) ≤ 20000000000000000) ∧ (((-20000000000000000) ≤ (v37 : Int) ∧ (v37 : Int) ≤ 20000000000000000) ∧ (∃ v38 : Int, ∃ v39 : Int, Spec Tryz.prog meter_over_s ⟨[x9, ((v32 + v34) + v36), ((v33 + v35) + v37)], [], []⟩ [v38, v39] [] [] ∧
   R (v22) (v23) (v30) (v31) (v38) (v39)))))))))))))))))))))))))))))))) :
    ∃ v0 : Int, ∃ v1 : Int, ∃ v2 : Int, ∃ v3 : Int, ∃ v4 : Int, ∃ v5 : Int, R v0 v1 v2 v3 v4 v5 ∧ Spec Tryz.prog meter_seen_s ⟨[x0, x1, x2, x3, x4, x5, x6, x7, x8, x9, x10, x11, x12, x13, x14, x15], [], []⟩ [v0, v1, v2, v3, v4, v5] [] [] :=
  Eq.mp (by kernel_rfl) (exV_of (K := fun d => app3 meter_seen_s.out R d ∧ Spec Tryz.prog meter_seen_s ⟨[x0, x1, x2, x3, x4, x5, x6, x7, x8, x9, x10, x11, x12, x13, x14, x15], [], []⟩ d.1 d.2.1 d.2.2) (tree_at mixed names S1_ok (S := S1 Tryz.prog) (lf := 100000) (d := 60) meter_seen_s sn_t { ivs := [(0, (-2000000000), 2000000000), (1, (-2000000000), 2000000000), (2, (-2000000000), 2000000000), (3, (-2000000000), 2000000000), (4, (-2000000000), 2000000000), (5, (-2000000000), 2000000000), (6, (-2000000000), 2000000000), (7, (-2000000000), 2000000000), (8, (-2000000000), 2000000000), (9, (-9223372036854775808), 9223372036854775807), (10, (-10000000), 10000000), (11, (-10000000), 10000000), (12, (-10000000), 10000000), (13, (-10000000), 10000000), (14, (-10000000), 10000000), (15, (-10000000), 10000000)], aivs := [] } ⟨[x0, x1, x2, x3, x4, x5, x6, x7, x8, x9, x10, x11, x12, x13, x14, x15], [], []⟩ rfl (by kernel_rfl) (by kernel_rfl) (by kernel_rfl) ⟨(fc r0 (fc r1 (fc r2 (fc r3 (fc r4 (fc r5 (fc r6 (fc r7 (fc r8 (fc r9 (fc r10 (fc r11 (fc r12 (fc r13 (fc r14 (fc r15 fz)))))))))))))))), fz, fz, fz⟩ (R := fun d => app3 meter_seen_s.out R d) (Eq.mp (by kernel_rfl) H)))

def rs_t : Tr :=
  (.call meter_CheckSums_s ⟨[(.var 0), (.var 1), (.var 2), (.var 3), (.var 4), (.var 5)], [], []⟩ ⟨[(.var 0), (.var 1), (.var 2), (.var 3), (.var 4), (.var 5), (.var 6)], [], []⟩ ⟨11, [(.agg [(.int .i64 (.var 0)), (.int .i64 (.var 1)), (.int .i64 (.var 2)), (.int .i64 (.var 3)), (.int .i64 (.var 4)), (.int .i64 (.var 5))])], [], [none, none], (.int .i64 (.var 6)), []⟩
  (.ite (.icmp .eql (.var 6) (.lit 0))
  (.ret ⟨[(.var 0), (.var 1), (.var 2), (.var 3), (.var 4), (.var 5), (.lit 0)], [], []⟩ [])
  (.ret ⟨[(.lit 0), (.lit 0), (.lit 0), (.lit 0), (.lit 0), (.lit 0), (.lit 8)], [], []⟩ [])))
theorem rs {x0 x1 x2 x3 x4 x5 : Int} (r0 : (-9223372036854775808) ≤ x0 ∧ x0 ≤ 9223372036854775807) (r1 : (-9223372036854775808) ≤ x1 ∧ x1 ≤ 9223372036854775807) (r2 : (-9223372036854775808) ≤ x2 ∧ x2 ≤ 9223372036854775807) (r3 : (-9223372036854775808) ≤ x3 ∧ x3 ≤ 9223372036854775807) (r4 : (-9223372036854775808) ≤ x4 ∧ x4 ≤ 9223372036854775807) (r5 : (-9223372036854775808) ≤ x5 ∧ x5 ≤ 9223372036854775807) {R : Int → Int → Int → Int → Int → Int → Int → Prop}
  (H : (∃ v6 : Int, Spec Tryz.prog meter_CheckSums_s ⟨[x0, x1, x2, x3, x4, x5], [], []⟩ [v6] [] [] ∧
   ((((v6 : Int) == 0) = true → R (x0) (x1) (x2) (x3) (x4) (x5) (0)) ∧
   (((v6 : Int) == 0) = false → R (0) (0) (0) (0) (0) (0) (8))))) :
    ∃ v0 : Int, ∃ v1 : Int, ∃ v2 : Int, ∃ v3 : Int, ∃ v4 : Int, ∃ v5 : Int, ∃ v6 : Int, R v0 v1 v2 v3 v4 v5 v6 ∧ Spec Tryz.prog meter_resultingSums_s ⟨[x0, x1, x2, x3, x4, x5], [], []⟩ [v0, v1, v2, v3, v4, v5, v6] [] [] :=
  Eq.mp (by kernel_rfl) (exV_of (K := fun d => app3 meter_resultingSums_s.out R d ∧ Spec Tryz.prog meter_resultingSums_s ⟨[x0, x1, x2, x3, x4, x5], [], []⟩ d.1 d.2.1 d.2.2) (tree_at mixed names S1_ok (S := S1 Tryz.prog) (lf := 100000) (d := 60) meter_resultingSums_s rs_t { ivs := [(0, (-9223372036854775808), 9223372036854775807), (1, (-9223372036854775808), 9223372036854775807), (2, (-9223372036854775808), 9223372036854775807), (3, (-9223372036854775808), 9223372036854775807), (4, (-9223372036854775808), 9223372036854775807), (5, (-9223372036854775808), 9223372036854775807)], aivs := [] } ⟨[x0, x1, x2, x3, x4, x5], [], []⟩ rfl (by kernel_rfl) (by kernel_rfl) (by kernel_rfl) ⟨(fc r0 (fc r1 (fc r2 (fc r3 (fc r4 (fc r5 fz)))))), fz, fz, fz⟩ (R := fun d => app3 meter_resultingSums_s.out R d) (Eq.mp (by kernel_rfl) H)))

def ck_t : Tr :=
  (.ite (.icmp .leq (.lit 1) (.var 9))
  (.ite (.icmp .leq (.var 9) (.lit 1000))
   (.ite (.icmp .leq (.lit (-1000)) (.var 0))
    (.ite (.icmp .leq (.var 0) (.lit 1000))
     (.ite (.icmp .leq (.lit (-1000)) (.var 1))
      (.ite (.icmp .leq (.var 1) (.lit 1000))
       (.ite (.icmp .leq (.lit (-1000)) (.var 2))
        (.ite (.icmp .leq (.var 2) (.lit 1000))
         (.ite (.icmp .leq (.lit (-1000)) (.var 3))
          (.ite (.icmp .leq (.var 3) (.lit 1000))
           (.ite (.icmp .leq (.lit (-1000)) (.var 4))
            (.ite (.icmp .leq (.var 4) (.lit 1000))
             (.ite (.icmp .leq (.lit (-1000)) (.var 5))
              (.ite (.icmp .leq (.var 5) (.lit 1000))
               (.ite (.icmp .leq (.lit (-1000)) (.var 6))
                (.ite (.icmp .leq (.var 6) (.lit 1000))
                 (.ite (.icmp .leq (.lit (-1000)) (.var 7))
                  (.ite (.icmp .leq (.var 7) (.lit 1000))
                   (.ite (.icmp .leq (.lit (-1000)) (.var 8))
                    (.ite (.icmp .leq (.var 8) (.lit 1000))
                     (.ret ⟨[(.lit 0)], [], []⟩ [])
                     (.ret ⟨[(.lit 2)], [], []⟩ []))
                    (.ret ⟨[(.lit 2)], [], []⟩ []))
                   (.ret ⟨[(.lit 2)], [], []⟩ []))
                  (.ret ⟨[(.lit 2)], [], []⟩ []))
                 (.ret ⟨[(.lit 2)], [], []⟩ []))
                (.ret ⟨[(.lit 2)], [], []⟩ []))
               (.ret ⟨[(.lit 2)], [], []⟩ []))
              (.ret ⟨[(.lit 2)], [], []⟩ []))
             (.ret ⟨[(.lit 2)], [], []⟩ []))
            (.ret ⟨[(.lit 2)], [], []⟩ []))
           (.ret ⟨[(.lit 2)], [], []⟩ []))
          (.ret ⟨[(.lit 2)], [], []⟩ []))
         (.ret ⟨[(.lit 2)], [], []⟩ []))
        (.ret ⟨[(.lit 2)], [], []⟩ []))
       (.ret ⟨[(.lit 2)], [], []⟩ []))
      (.ret ⟨[(.lit 2)], [], []⟩ []))
     (.ret ⟨[(.lit 2)], [], []⟩ []))
    (.ret ⟨[(.lit 2)], [], []⟩ []))
   (.ret ⟨[(.lit 2)], [], []⟩ []))
  (.ret ⟨[(.lit 2)], [], []⟩ []))
theorem ck {x0 x1 x2 x3 x4 x5 x6 x7 x8 x9 : Int} (r0 : (-9223372036854775808) ≤ x0 ∧ x0 ≤ 9223372036854775807) (r1 : (-9223372036854775808) ≤ x1 ∧ x1 ≤ 9223372036854775807) (r2 : (-9223372036854775808) ≤ x2 ∧ x2 ≤ 9223372036854775807) (r3 : (-9223372036854775808) ≤ x3 ∧ x3 ≤ 9223372036854775807) (r4 : (-9223372036854775808) ≤ x4 ∧ x4 ≤ 9223372036854775807) (r5 : (-9223372036854775808) ≤ x5 ∧ x5 ≤ 9223372036854775807) (r6 : (-9223372036854775808) ≤ x6 ∧ x6 ≤ 9223372036854775807) (r7 : (-9223372036854775808) ≤ x7 ∧ x7 ≤ 9223372036854775807) (r8 : (-9223372036854775808) ≤ x8 ∧ x8 ≤ 9223372036854775807) (r9 : (-9223372036854775808) ≤ x9 ∧ x9 ≤ 9223372036854775807) {R : Int → Prop}
  (H : ((decide ((1 : Int) ≤ x9) = true → ((decide ((x9 : Int) ≤ 1000) = true → ((decide (((-1000) : Int) ≤ x0) = true → ((decide ((x0 : Int) ≤ 1000) = true → ((decide (((-1000) : Int) ≤ x1) = true → ((decide ((x1 : Int) ≤ 1000) = true → ((decide (((-1000) : Int) ≤ x2) = true → ((decide ((x2 : Int) ≤ 1000) = true → ((decide (((-1000) : Int) ≤ x3) = true → ((decide ((x3 : Int) ≤ 1000) = true → ((decide (((-1000) : Int) ≤ x4) = true → ((decide ((x4 : Int) ≤ 1000) = true → ((decide (((-1000) : Int) ≤ x5) = true → ((decide ((x5 : Int) ≤ 1000) = true → ((decide (((-1000) : Int) ≤ x6) = true → ((decide ((x6 : Int) ≤ 1000) = true → ((decide (((-1000) : Int) ≤ x7) = true → ((decide ((x7 : Int) ≤ 1000) = true → ((decide (((-1000) : Int) ≤ x8) = true → ((decide ((x8 : Int) ≤ 1000) = true → R (0)) ∧
                      (decide ((x8 : Int) ≤ 1000) = false → R (2)))) ∧
                     (decide (((-1000) : Int) ≤ x8) = false → R (2)))) ∧
                    (decide ((x7 : Int) ≤ 1000) = false → R (2)))) ∧
                   (decide (((-1000) : Int) ≤ x7) = false → R (2)))) ∧
                  (decide ((x6 : Int) ≤ 1000) = false → R (2)))) ∧
                 (decide (((-1000) : Int) ≤ x6) = false → R (2)))) ∧
                (decide ((x5 : Int) ≤ 1000) = false → R (2)))) ∧
               (decide (((-1000) : Int) ≤ x5) = false → R (2)))) ∧
              (decide ((x4 : Int) ≤ 1000) = false → R (2)))) ∧
             (decide (((-1000) : Int) ≤ x4) = false → R (2)))) ∧
            (decide ((x3 : Int) ≤ 1000) = false → R (2)))) ∧
           (decide (((-1000) : Int) ≤ x3) = false → R (2)))) ∧
          (decide ((x2 : Int) ≤ 1000) = false → R (2)))) ∧
         (decide (((-1000) : Int) ≤ x2) = false → R (2)))) ∧
        (decide ((x1 : Int) ≤ 1000) = false → R (2)))) ∧
       (decide (((-1000) : Int) ≤ x1) = false → R (2)))) ∧
      (decide ((x0 : Int) ≤ 1000) = false → R (2)))) ∧
     (decide (((-1000) : Int) ≤ x0) = false → R (2)))) ∧
    (decide ((x9 : Int) ≤ 1000) = false → R (2)))) ∧
   (decide ((1 : Int) ≤ x9) = false → R (2)))) :
    ∃ v0 : Int, R v0 ∧ Spec Tryz.prog meter_CheckMatrix_s ⟨[x0, x1, x2, x3, x4, x5, x6, x7, x8, x9], [], []⟩ [v0] [] [] :=
  Eq.mp (by kernel_rfl) (exV_of (K := fun d => app3 meter_CheckMatrix_s.out R d ∧ Spec Tryz.prog meter_CheckMatrix_s ⟨[x0, x1, x2, x3, x4, x5, x6, x7, x8, x9], [], []⟩ d.1 d.2.1 d.2.2) (tree_at mixed names S1_ok (S := S1 Tryz.prog) (lf := 100000) (d := 60) meter_CheckMatrix_s ck_t { ivs := [(0, (-9223372036854775808), 9223372036854775807), (1, (-9223372036854775808), 9223372036854775807), (2, (-9223372036854775808), 9223372036854775807), (3, (-9223372036854775808), 9223372036854775807), (4, (-9223372036854775808), 9223372036854775807), (5, (-9223372036854775808), 9223372036854775807), (6, (-9223372036854775808), 9223372036854775807), (7, (-9223372036854775808), 9223372036854775807), (8, (-9223372036854775808), 9223372036854775807), (9, (-9223372036854775808), 9223372036854775807)], aivs := [] } ⟨[x0, x1, x2, x3, x4, x5, x6, x7, x8, x9], [], []⟩ rfl (by kernel_rfl) (by kernel_rfl) (by kernel_rfl) ⟨(fc r0 (fc r1 (fc r2 (fc r3 (fc r4 (fc r5 (fc r6 (fc r7 (fc r8 (fc r9 fz)))))))))), fz, fz, fz⟩ (R := fun d => app3 meter_CheckMatrix_s.out R d) (Eq.mp (by kernel_rfl) H)))

def ckr_t : Tr :=
  (.ite (.icmp .leq (.lit 1) (.var 9))
  (.ite (.icmp .leq (.var 9) (.lit 1000))
   (.ite (.icmp .leq (.lit (-1000)) (.var 0))
    (.ite (.icmp .leq (.var 0) (.lit 1000))
     (.ite (.icmp .leq (.lit (-1000)) (.var 1))
      (.ite (.icmp .leq (.var 1) (.lit 1000))
       (.ite (.icmp .leq (.lit (-1000)) (.var 2))
        (.ite (.icmp .leq (.var 2) (.lit 1000))
         (.ite (.icmp .leq (.lit (-1000)) (.var 3))
          (.ite (.icmp .leq (.var 3) (.lit 1000))
           (.ite (.icmp .leq (.lit (-1000)) (.var 4))
            (.ite (.icmp .leq (.var 4) (.lit 1000))
             (.ite (.icmp .leq (.lit (-1000)) (.var 5))
              (.ite (.icmp .leq (.var 5) (.lit 1000))
               (.ite (.icmp .leq (.lit (-1000)) (.var 6))
                (.ite (.icmp .leq (.var 6) (.lit 1000))
                 (.ite (.icmp .leq (.lit (-1000)) (.var 7))
                  (.ite (.icmp .leq (.var 7) (.lit 1000))
                   (.ite (.icmp .leq (.lit (-1000)) (.var 8))
                    (.ite (.icmp .leq (.var 8) (.lit 1000))
                     (.ret ⟨[(.lit 0)], [], []⟩ [])
                     (.ret ⟨[(.lit 2)], [], []⟩ []))
                    (.ret ⟨[(.lit 2)], [], []⟩ []))
                   (.ret ⟨[(.lit 2)], [], []⟩ []))
                  (.ret ⟨[(.lit 2)], [], []⟩ []))
                 (.ret ⟨[(.lit 2)], [], []⟩ []))
                (.ret ⟨[(.lit 2)], [], []⟩ []))
               (.ret ⟨[(.lit 2)], [], []⟩ []))
              (.ret ⟨[(.lit 2)], [], []⟩ []))
             (.ret ⟨[(.lit 2)], [], []⟩ []))
            (.ret ⟨[(.lit 2)], [], []⟩ []))
           (.ret ⟨[(.lit 2)], [], []⟩ []))
          (.ret ⟨[(.lit 2)], [], []⟩ []))
         (.ret ⟨[(.lit 2)], [], []⟩ []))
        (.ret ⟨[(.lit 2)], [], []⟩ []))
       (.ret ⟨[(.lit 2)], [], []⟩ []))
      (.ret ⟨[(.lit 2)], [], []⟩ []))
     (.ret ⟨[(.lit 2)], [], []⟩ []))
    (.ret ⟨[(.lit 2)], [], []⟩ []))
   (.ret ⟨[(.lit 2)], [], []⟩ []))
  (.ret ⟨[(.lit 2)], [], []⟩ []))
theorem ckr {x0 x1 x2 x3 x4 x5 x6 x7 x8 x9 : Int} (r0 : (-9223372036854775808) ≤ x0 ∧ x0 ≤ 9223372036854775807) (r1 : (-9223372036854775808) ≤ x1 ∧ x1 ≤ 9223372036854775807) (r2 : (-9223372036854775808) ≤ x2 ∧ x2 ≤ 9223372036854775807) (r3 : (-9223372036854775808) ≤ x3 ∧ x3 ≤ 9223372036854775807) (r4 : (-9223372036854775808) ≤ x4 ∧ x4 ≤ 9223372036854775807) (r5 : (-9223372036854775808) ≤ x5 ∧ x5 ≤ 9223372036854775807) (r6 : (-9223372036854775808) ≤ x6 ∧ x6 ≤ 9223372036854775807) (r7 : (-9223372036854775808) ≤ x7 ∧ x7 ≤ 9223372036854775807) (r8 : (-9223372036854775808) ≤ x8 ∧ x8 ≤ 9223372036854775807) (r9 : (-9223372036854775808) ≤ x9 ∧ x9 ≤ 9223372036854775807) {R : Int → Prop}
  (H : ((decide ((1 : Int) ≤ x9) = true → ((decide ((x9 : Int) ≤ 1000) = true → ((decide (((-1000) : Int) ≤ x0) = true → ((decide ((x0 : Int) ≤ 1000) = true → ((decide (((-1000) : Int) ≤ x1) = true → ((decide ((x1 : Int) ≤ 1000) = true → ((decide (((-1000) : Int) ≤ x2) = true → ((decide ((x2 : Int) ≤ 1000) = true → ((decide (((-1000) : Int) ≤ x3) = true → ((decide ((x3 : Int) ≤ 1000) = true → ((decide (((-1000) : Int) ≤ x4) = true → ((decide ((x4 : Int) ≤ 1000) = true → ((decide (((-1000) : Int) ≤ x5) = true → ((decide ((x5 : Int) ≤ 1000) = true → ((decide (((-1000) : Int) ≤ x6) = true → ((decide ((x6 : Int) ≤ 1000) = true → ((decide (((-1000) : Int) ≤ x7) = true → ((decide ((x7 : Int) ≤ 1000) = true → ((decide (((-1000) : Int) ≤ x8) = true → ((decide ((x8 : Int) ≤ 1000) = true → R (0)) ∧
                      (decide ((x8 : Int) ≤ 1000) = false → R (2)))) ∧
                     (decide (((-1000) : Int) ≤ x8) = false → R (2)))) ∧
                    (decide ((x7 : Int) ≤ 1000) = false → R (2)))) ∧
                   (decide (((-1000) : Int) ≤ x7) = false → R (2)))) ∧
                  (decide ((x6 : Int) ≤ 1000) = false → R (2)))) ∧
                 (decide (((-1000) : Int) ≤ x6) = false → R (2)))) ∧
                (decide ((x5 : Int) ≤ 1000) = false → R (2)))) ∧
               (decide (((-1000) : Int) ≤ x5) = false → R (2)))) ∧
              (decide ((x4 : Int) ≤ 1000) = false → R (2)))) ∧
             (decide (((-1000) : Int) ≤ x4) = false → R (2)))) ∧
            (decide ((x3 : Int) ≤ 1000) = false → R (2)))) ∧
           (decide (((-1000) : Int) ≤ x3) = false → R (2)))) ∧
          (decide ((x2 : Int) ≤ 1000) = false → R (2)))) ∧
         (decide (((-1000) : Int) ≤ x2) = false → R (2)))) ∧
        (decide ((x1 : Int) ≤ 1000) = false → R (2)))) ∧
       (decide (((-1000) : Int) ≤ x1) = false → R (2)))) ∧
      (decide ((x0 : Int) ≤ 1000) = false → R (2)))) ∧
     (decide (((-1000) : Int) ≤ x0) = false → R (2)))) ∧
    (decide ((x9 : Int) ≤ 1000) = false → R (2)))) ∧
   (decide ((1 : Int) ≤ x9) = false → R (2)))) :
    ∃ v0 : Int, R v0 ∧ Spec Tryz.prog etalonref06_CheckMatrix_s ⟨[x0, x1, x2, x3, x4, x5, x6, x7, x8, x9], [], []⟩ [v0] [] [] :=
  Eq.mp (by kernel_rfl) (exV_of (K := fun d => app3 etalonref06_CheckMatrix_s.out R d ∧ Spec Tryz.prog etalonref06_CheckMatrix_s ⟨[x0, x1, x2, x3, x4, x5, x6, x7, x8, x9], [], []⟩ d.1 d.2.1 d.2.2) (tree_at mixed names S1_ok (S := S1 Tryz.prog) (lf := 100000) (d := 60) etalonref06_CheckMatrix_s ckr_t { ivs := [(0, (-9223372036854775808), 9223372036854775807), (1, (-9223372036854775808), 9223372036854775807), (2, (-9223372036854775808), 9223372036854775807), (3, (-9223372036854775808), 9223372036854775807), (4, (-9223372036854775808), 9223372036854775807), (5, (-9223372036854775808), 9223372036854775807), (6, (-9223372036854775808), 9223372036854775807), (7, (-9223372036854775808), 9223372036854775807), (8, (-9223372036854775808), 9223372036854775807), (9, (-9223372036854775808), 9223372036854775807)], aivs := [] } ⟨[x0, x1, x2, x3, x4, x5, x6, x7, x8, x9], [], []⟩ rfl (by kernel_rfl) (by kernel_rfl) (by kernel_rfl) ⟨(fc r0 (fc r1 (fc r2 (fc r3 (fc r4 (fc r5 (fc r6 (fc r7 (fc r8 (fc r9 fz)))))))))), fz, fz, fz⟩ (R := fun d => app3 etalonref06_CheckMatrix_s.out R d) (Eq.mp (by kernel_rfl) H)))

def ivw_t : Tr :=
  (.ret ⟨[(.bin .mulI (.var 9) (.bin .subI (.bin .mulI (.var 4) (.var 8)) (.bin .mulI (.var 5) (.var 7)))), (.bin .mulI (.var 9) (.bin .subI (.bin .mulI (.var 7) (.var 2)) (.bin .mulI (.var 8) (.var 1)))), (.bin .mulI (.var 9) (.bin .subI (.bin .mulI (.var 1) (.var 5)) (.bin .mulI (.var 2) (.var 4)))), (.bin .mulI (.var 9) (.bin .subI (.bin .mulI (.var 5) (.var 6)) (.bin .mulI (.var 3) (.var 8)))), (.bin .mulI (.var 9) (.bin .subI (.bin .mulI (.var 8) (.var 0)) (.bin .mulI (.var 6) (.var 2)))), (.bin .mulI (.var 9) (.bin .subI (.bin .mulI (.var 2) (.var 3)) (.bin .mulI (.var 0) (.var 5)))), (.bin .mulI (.var 9) (.bin .subI (.bin .mulI (.var 3) (.var 7)) (.bin .mulI (.var 4) (.var 6)))), (.bin .mulI (.var 9) (.bin .subI (.bin .mulI (.var 6) (.var 1)) (.bin .mulI (.var 7) (.var 0)))), (.bin .mulI (.var 9) (.bin .subI (.bin .mulI (.var 0) (.var 4)) (.bin .mulI (.var 1) (.var 3)))), (.bin .addI (.bin .addI (.bin .mulI (.var 0) (.bin .subI (.bin .mulI (.var 4) (.var 8)) (.bin .mulI (.var 5) (.var 7)))) (.bin .mulI (.var 1) (.bin .subI (.bin .mulI (.var 5) (.var 6)) (.bin .mulI (.var 3) (.var 8))))) (.bin .mulI (.var 2) (.bin .subI (.bin .mulI (.var 3) (.var 7)) (.bin .mulI (.var 4) (.var 6)))))], [], []⟩ [])
theorem ivw {x0 x1 x2 x3 x4 x5 x6 x7 x8 x9 : Int} (r0 : (-1000) ≤ x0 ∧ x0 ≤ 1000) (r1 : (-1000) ≤ x1 ∧ x1 ≤ 1000) (r2 : (-1000) ≤ x2 ∧ x2 ≤ 1000) (r3 : (-1000) ≤ x3 ∧ x3 ≤ 1000) (r4 : (-1000) ≤ x4 ∧ x4 ≤ 1000) (r5 : (-1000) ≤ x5 ∧ x5 ≤ 1000) (r6 : (-1000) ≤ x6 ∧ x6 ≤ 1000) (r7 : (-1000) ≤ x7 ∧ x7 ≤ 1000) (r8 : (-1000) ≤ x8 ∧ x8 ≤ 1000) (r9 : 1 ≤ x9 ∧ x9 ≤ 1000) {R : Int → Int → Int → Int → Int → Int → Int → Int → Int → Int → Prop}
  (H : R ((x9 * ((x4 * x8) - (x5 * x7)))) ((x9 * ((x7 * x2) - (x8 * x1)))) ((x9 * ((x1 * x5) - (x2 * x4)))) ((x9 * ((x5 * x6) - (x3 * x8)))) ((x9 * ((x8 * x0) - (x6 * x2)))) ((x9 * ((x2 * x3) - (x0 * x5)))) ((x9 * ((x3 * x7) - (x4 * x6)))) ((x9 * ((x6 * x1) - (x7 * x0)))) ((x9 * ((x0 * x4) - (x1 * x3)))) ((((x0 * ((x4 * x8) - (x5 * x7))) + (x1 * ((x5 * x6) - (x3 * x8)))) + (x2 * ((x3 * x7) - (x4 * x6)))))) :
    ∃ v0 : Int, ∃ v1 : Int, ∃ v2 : Int, ∃ v3 : Int, ∃ v4 : Int, ∃ v5 : Int, ∃ v6 : Int, ∃ v7 : Int, ∃ v8 : Int, ∃ v9 : Int, R v0 v1 v2 v3 v4 v5 v6 v7 v8 v9 ∧ Spec Tryz.prog meter_inverse_s ⟨[x0, x1, x2, x3, x4, x5, x6, x7, x8, x9], [], []⟩ [v0, v1, v2, v3, v4, v5, v6, v7, v8, v9] [] [] :=
  Eq.mp (by kernel_rfl) (exV_of (K := fun d => app3 meter_inverse_s.out R d ∧ Spec Tryz.prog meter_inverse_s ⟨[x0, x1, x2, x3, x4, x5, x6, x7, x8, x9], [], []⟩ d.1 d.2.1 d.2.2) (tree_at mixed names S1_ok (S := S1 Tryz.prog) (lf := 100000) (d := 60) meter_inverse_s ivw_t { ivs := [(0, (-1000), 1000), (1, (-1000), 1000), (2, (-1000), 1000), (3, (-1000), 1000), (4, (-1000), 1000), (5, (-1000), 1000), (6, (-1000), 1000), (7, (-1000), 1000), (8, (-1000), 1000), (9, 1, 1000)], aivs := [] } ⟨[x0, x1, x2, x3, x4, x5, x6, x7, x8, x9], [], []⟩ rfl (by kernel_rfl) (by kernel_rfl) (by kernel_rfl) ⟨(fc r0 (fc r1 (fc r2 (fc r3 (fc r4 (fc r5 (fc r6 (fc r7 (fc r8 (fc r9 fz)))))))))), fz, fz, fz⟩ (R := fun d => app3 meter_inverse_s.out R d) (Eq.mp (by kernel_rfl) H)))

def se__t : Tr :=
  (.call meter_CheckMatrix_s ⟨[(.var 0), (.var 1), (.var 2), (.var 3), (.var 4), (.var 5), (.var 6), (.var 7), (.var 8), (.var 9)], [], []⟩ ⟨[(.var 0), (.var 1), (.var 2), (.var 3), (.var 4), (.var 5), (.var 6), (.var 7), (.var 8), (.var 9), (.var 16)], [], []⟩ ⟨9, [(.agg [(.int .i64 (.var 0)), (.int .i64 (.var 1)), (.int .i64 (.var 2)), (.int .i64 (.var 3)), (.int .i64 (.var 4)), (.int .i64 (.var 5)), (.int .i64 (.var 6)), (.int .i64 (.var 7)), (.int .i64 (.var 8)), (.int .i64 (.var 9))])], [], [none, none, none], (.int .i64 (.var 16)), []⟩
  (.call meter_CheckSums_s ⟨[(.var 10), (.var 11), (.var 12), (.var 13), (.var 14), (.var 15)], [], []⟩ ⟨[(.var 10), (.var 11), (.var 12), (.var 13), (.var 14), (.var 15), (.var 17)], [], []⟩ ⟨11, [(.agg [(.int .i64 (.var 10)), (.int .i64 (.var 11)), (.int .i64 (.var 12)), (.int .i64 (.var 13)), (.int .i64 (.var 14)), (.int .i64 (.var 15))])], [], [none, none, none], (.int .i64 (.var 17)), []⟩
  (.ite (.icmp .eql (.var 16) (.lit 0))
  (.ite (.icmp .eql (.var 17) (.lit 0))
   (.call meter_seen_s ⟨[(.var 0), (.var 1), (.var 2), (.var 3), (.var 4), (.var 5), (.var 6), (.var 7), (.var 8), (.var 9), (.var 10), (.var 11), (.var 12), (.var 13), (.var 14), (.var 15)], [], []⟩ ⟨[(.var 0), (.var 1), (.var 2), (.var 3), (.var 4), (.var 5), (.var 6), (.var 7), (.var 8), (.var 9), (.var 10), (.var 11), (.var 12), (.var 13), (.var 14), (.var 15), (.var 18), (.var 19), (.var 20), (.var 21), (.var 22), (.var 23)], [], []⟩ ⟨52, [(.agg [(.int .i64 (.var 0)), (.int .i64 (.var 1)), (.int .i64 (.var 2)), (.int .i64 (.var 3)), (.int .i64 (.var 4)), (.int .i64 (.var 5)), (.int .i64 (.var 6)), (.int .i64 (.var 7)), (.int .i64 (.var 8)), (.int .i64 (.var 9))]), (.agg [(.int .i64 (.var 10)), (.int .i64 (.var 11)), (.int .i64 (.var 12)), (.int .i64 (.var 13)), (.int .i64 (.var 14)), (.int .i64 (.var 15))])], [], [none, none, none, none], (.agg [(.int .i64 (.var 18)), (.int .i64 (.var 19)), (.int .i64 (.var 20)), (.int .i64 (.var 21)), (.int .i64 (.var 22)), (.int .i64 (.var 23))]), []⟩
    (.call meter_resultingSums_s ⟨[(.var 18), (.var 19), (.var 20), (.var 21), (.var 22), (.var 23)], [], []⟩ ⟨[(.var 18), (.var 19), (.var 20), (.var 21), (.var 22), (.var 23), (.var 24), (.var 25), (.var 26), (.var 27), (.var 28), (.var 29), (.var 30)], [], []⟩ ⟨51, [(.agg [(.int .i64 (.var 18)), (.int .i64 (.var 19)), (.int .i64 (.var 20)), (.int .i64 (.var 21)), (.int .i64 (.var 22)), (.int .i64 (.var 23))])], [], [none, none, none, none], (.tuple [(.agg [(.int .i64 (.var 24)), (.int .i64 (.var 25)), (.int .i64 (.var 26)), (.int .i64 (.var 27)), (.int .i64 (.var 28)), (.int .i64 (.var 29))]), (.int .i64 (.var 30))]), []⟩
    (.ret ⟨[(.var 24), (.var 25), (.var 26), (.var 27), (.var 28), (.var 29), (.var 30)], [], []⟩ [])))
   (.ret ⟨[(.lit 0), (.lit 0), (.lit 0), (.lit 0), (.lit 0), (.lit 0), (.var 17)], [], []⟩ []))
  (.ret ⟨[(.lit 0), (.lit 0), (.lit 0), (.lit 0), (.lit 0), (.lit 0), (.var 16)], [], []⟩ []))))
theorem se_ {x0 x1 x2 x3 x4 x5 x6 x7 x8 x9 x10 x11 x12 x13 x14 x15 : Int} (r0 : (-9223372036854775808) ≤ x0 ∧ x0 ≤ 9223372036854775807) (r1 : (-9223372036854775808) ≤ x1 ∧ x1 ≤ 9223372036854775807) (r2 : (-9223372036854775808) ≤ x2 ∧ x2 ≤ 9223372036854775807) (r3 : (-9223372036854775808) ≤ x3 ∧ x3 ≤ 9223372036854775807) (r4 : (-9223372036854775808) ≤ x4 ∧ x4 ≤ 9223372036854775807) (r5 : (-9223372036854775808) ≤ x5 ∧ x5 ≤ 9223372036854775807) (r6 : (-9223372036854775808) ≤ x6 ∧ x6 ≤ 9223372036854775807) (r7 : (-9223372036854775808) ≤ x7 ∧ x7 ≤ 9223372036854775807) (r8 : (-9223372036854775808) ≤ x8 ∧ x8 ≤ 9223372036854775807) (r9 : (-9223372036854775808) ≤ x9 ∧ x9 ≤ 9223372036854775807) (r10 : (-9223372036854775808) ≤ x10 ∧ x10 ≤ 9223372036854775807) (r11 : (-9223372036854775808) ≤ x11 ∧ x11 ≤ 9223372036854775807) (r12 : (-9223372036854775808) ≤ x12 ∧ x12 ≤ 9223372036854775807) (r13 : (-9223372036854775808) ≤ x13 ∧ x13 ≤ 9223372036854775807) (r14 : (-9223372036854775808) ≤ x14 ∧ x14 ≤ 9223372036854775807) (r15 : (-9223372036854775808) ≤ x15 ∧ x15 ≤ 9223372036854775807) {R : Int → Int → Int → Int → Int → Int → Int → Prop}
  (H : (∃ v16 : Int, Spec Tryz.prog meter_CheckMatrix_s ⟨[x0, x1, x2, x3, x4, x5, x6, x7, x8, x9], [], []⟩ [v16] [] [] ∧
   (∃ v17 : Int, Spec Tryz.prog meter_CheckSums_s ⟨[x10, x11, x12, x13, x14, x15], [], []⟩ [v17] [] [] ∧
   ((((v16 : Int) == 0) = true → ((((v17 : Int) == 0) = true → (∃ v18 : Int, ∃ v19 : Int, ∃ v20 : Int, ∃ v21 : Int, ∃ v22 : Int, ∃ v23 : Int, Spec Tryz.prog meter_seen_s ⟨[x0, x1, x2, x3, x4, x5, x6, x7, x8, x9, x10, x11, x12, x13, x14, x15], [], []⟩ [v18, v19, v20, v21, v22, v23] [] [] ∧
     (∃ v24 : Int, ∃ v25 : Int, ∃ v26 : Int, ∃ v27 : Int, ∃ v28 : Int, ∃ v29 : Int, ∃ v30 : Int, Spec Tryz.prog meter_resultingSums_s ⟨[v18, v19, v20, v21, v22, v23], [], []⟩ [v24, v25, v26, v27, v28, v29, v30] [] [] ∧
     R (v24) (v25) (v26) (v27) (v28) (v29) (v30)))) ∧
    (((v17 : Int) == 0) = false → R (0) (0) (0) (0) (0) (0) (v17)))) ∧
   (((v16 : Int) == 0) = false → R (0) (0) (0) (0) (0) (0) (v16)))))) :
    ∃ v0 : Int, ∃ v1 : Int, ∃ v2 : Int, ∃ v3 : Int, ∃ v4 : Int, ∃ v5 : Int, ∃ v6 : Int, R v0 v1 v2 v3 v4 v5 v6 ∧ Spec Tryz.prog meter_Seen_s ⟨[x0, x1, x2, x3, x4, x5, x6, x7, x8, x9, x10, x11, x12, x13, x14, x15], [], []⟩ [v0, v1, v2, v3, v4, v5, v6] [] [] :=
  Eq.mp (by kernel_rfl) (exV_of (K := fun d => app3 meter_Seen_s.out R d ∧ Spec Tryz.prog meter_Seen_s ⟨[x0, x1, x2, x3, x4, x5, x6, x7, x8, x9, x10, x11, x12, x13, x14, x15], [], []⟩ d.1 d.2.1 d.2.2) (tree_at mixed names S1_ok (S := S1 Tryz.prog) (lf := 100000) (d := 60) meter_Seen_s se__t { ivs := [(0, (-9223372036854775808), 9223372036854775807), (1, (-9223372036854775808), 9223372036854775807), (2, (-9223372036854775808), 9223372036854775807), (3, (-9223372036854775808), 9223372036854775807), (4, (-9223372036854775808), 9223372036854775807), (5, (-9223372036854775808), 9223372036854775807), (6, (-9223372036854775808), 9223372036854775807), (7, (-9223372036854775808), 9223372036854775807), (8, (-9223372036854775808), 9223372036854775807), (9, (-9223372036854775808), 9223372036854775807), (10, (-9223372036854775808), 9223372036854775807), (11, (-9223372036854775808), 9223372036854775807), (12, (-9223372036854775808), 9223372036854775807), (13, (-9223372036854775808), 9223372036854775807), (14, (-9223372036854775808), 9223372036854775807), (15, (-9223372036854775808), 9223372036854775807)], aivs := [] } ⟨[x0, x1, x2, x3, x4, x5, x6, x7, x8, x9, x10, x11, x12, x13, x14, x15], [], []⟩ rfl (by kernel_rfl) (by kernel_rfl) (by kernel_rfl) ⟨(fc r0 (fc r1 (fc r2 (fc r3 (fc r4 (fc r5 (fc r6 (fc r7 (fc r8 (fc r9 (fc r10 (fc r11 (fc r12 (fc r13 (fc r14 (fc r15 fz)))))))))))))))), fz, fz, fz⟩ (R := fun d => app3 meter_Seen_s.out R d) (Eq.mp (by kernel_rfl) H)))

def co_t : Tr :=
  (.call meter_CheckMatrix_s ⟨[(.var 0), (.var 1), (.var 2), (.var 3), (.var 4), (.var 5), (.var 6), (.var 7), (.var 8), (.var 9)], [], []⟩ ⟨[(.var 0), (.var 1), (.var 2), (.var 3), (.var 4), (.var 5), (.var 6), (.var 7), (.var 8), (.var 9), (.var 16)], [], []⟩ ⟨9, [(.agg [(.int .i64 (.var 0)), (.int .i64 (.var 1)), (.int .i64 (.var 2)), (.int .i64 (.var 3)), (.int .i64 (.var 4)), (.int .i64 (.var 5)), (.int .i64 (.var 6)), (.int .i64 (.var 7)), (.int .i64 (.var 8)), (.int .i64 (.var 9))])], [], [none, none, none], (.int .i64 (.var 16)), []⟩
  (.call meter_CheckSums_s ⟨[(.var 10), (.var 11), (.var 12), (.var 13), (.var 14), (.var 15)], [], []⟩ ⟨[(.var 10), (.var 11), (.var 12), (.var 13), (.var 14), (.var 15), (.var 17)], [], []⟩ ⟨11, [(.agg [(.int .i64 (.var 10)), (.int .i64 (.var 11)), (.int .i64 (.var 12)), (.int .i64 (.var 13)), (.int .i64 (.var 14)), (.int .i64 (.var 15))])], [], [none, none, none], (.int .i64 (.var 17)), []⟩
  (.ite (.icmp .eql (.var 16) (.lit 0))
  (.ite (.icmp .eql (.var 17) (.lit 0))
   (.call meter_inverse_s ⟨[(.var 0), (.var 1), (.var 2), (.var 3), (.var 4), (.var 5), (.var 6), (.var 7), (.var 8), (.var 9)], [], []⟩ ⟨[(.var 0), (.var 1), (.var 2), (.var 3), (.var 4), (.var 5), (.var 6), (.var 7), (.var 8), (.var 9), (.var 18), (.var 19), (.var 20), (.var 21), (.var 22), (.var 23), (.var 24), (.var 25), (.var 26), (.var 27)], [], []⟩ ⟨53, [(.agg [(.int .i64 (.var 0)), (.int .i64 (.var 1)), (.int .i64 (.var 2)), (.int .i64 (.var 3)), (.int .i64 (.var 4)), (.int .i64 (.var 5)), (.int .i64 (.var 6)), (.int .i64 (.var 7)), (.int .i64 (.var 8)), (.int .i64 (.var 9))])], [], [none, none, none, none], (.agg [(.int .i64 (.var 18)), (.int .i64 (.var 19)), (.int .i64 (.var 20)), (.int .i64 (.var 21)), (.int .i64 (.var 22)), (.int .i64 (.var 23)), (.int .i64 (.var 24)), (.int .i64 (.var 25)), (.int .i64 (.var 26)), (.int .i64 (.var 27))]), []⟩
    (.ite (.icmp .eql (.var 27) (.lit 0))
    (.ret ⟨[(.lit 0), (.lit 0), (.lit 0), (.lit 0), (.lit 0), (.lit 0), (.lit 28)], [], []⟩ [])
    (.call meter_seen_s ⟨[(.var 18), (.var 19), (.var 20), (.var 21), (.var 22), (.var 23), (.var 24), (.var 25), (.var 26), (.var 27), (.var 10), (.var 11), (.var 12), (.var 13), (.var 14), (.var 15)], [], []⟩ ⟨[(.var 18), (.var 19), (.var 20), (.var 21), (.var 22), (.var 23), (.var 24), (.var 25), (.var 26), (.var 27), (.var 10), (.var 11), (.var 12), (.var 13), (.var 14), (.var 15), (.var 28), (.var 29), (.var 30), (.var 31), (.var 32), (.var 33)], [], []⟩ ⟨52, [(.agg [(.int .i64 (.var 18)), (.int .i64 (.var 19)), (.int .i64 (.var 20)), (.int .i64 (.var 21)), (.int .i64 (.var 22)), (.int .i64 (.var 23)), (.int .i64 (.var 24)), (.int .i64 (.var 25)), (.int .i64 (.var 26)), (.int .i64 (.var 27))]), (.agg [(.int .i64 (.var 10)), (.int .i64 (.var 11)), (.int .i64 (.var 12)), (.int .i64 (.var 13)), (.int .i64 (.var 14)), (.int .i64 (.var 15))])], [], [none, none, none, none, none], (.agg [(.int .i64 (.var 28)), (.int .i64 (.var 29)), (.int .i64 (.var 30)), (.int .i64 (.var 31)), (.int .i64 (.var 32)), (.int .i64 (.var 33))]), []⟩
     (.call meter_resultingSums_s ⟨[(.var 28), (.var 29), (.var 30), (.var 31), (.var 32), (.var 33)], [], []⟩ ⟨[(.var 28), (.var 29), (.var 30), (.var 31), (.var 32), (.var 33), (.var 34), (.var 35), (.var 36), (.var 37), (.var 38), (.var 39), (.var 40)], [], []⟩ ⟨51, [(.agg [(.int .i64 (.var 28)), (.int .i64 (.var 29)), (.int .i64 (.var 30)), (.int .i64 (.var 31)), (.int .i64 (.var 32)), (.int .i64 (.var 33))])], [], [none, none, none, none, none], (.tuple [(.agg [(.int .i64 (.var 34)), (.int .i64 (.var 35)), (.int .i64 (.var 36)), (.int .i64 (.var 37)), (.int .i64 (.var 38)), (.int .i64 (.var 39))]), (.int .i64 (.var 40))]), []⟩
     (.ret ⟨[(.var 34), (.var 35), (.var 36), (.var 37), (.var 38), (.var 39), (.var 40)], [], []⟩ [])))))
   (.ret ⟨[(.lit 0), (.lit 0), (.lit 0), (.lit 0), (.lit 0), (.lit 0), (.var 17)], [], []⟩ []))
  (.ret ⟨[(.lit 0), (.lit 0), (.lit 0), (.lit 0), (.lit 0), (.lit 0), (.var 16)], [], []⟩ []))))
theorem co {x0 x1 x2 x3 x4 x5 x6 x7 x8 x9 x10 x11 x12 x13 x14 x15 : Int} (r0 : (-9223372036854775808) ≤ x0 ∧ x0 ≤ 9223372036854775807) (r1 : (-9223372036854775808) ≤ x1 ∧ x1 ≤ 9223372036854775807) (r2 : (-9223372036854775808) ≤ x2 ∧ x2 ≤ 9223372036854775807) (r3 : (-9223372036854775808) ≤ x3 ∧ x3 ≤ 9223372036854775807) (r4 : (-9223372036854775808) ≤ x4 ∧ x4 ≤ 9223372036854775807) (r5 : (-9223372036854775808) ≤ x5 ∧ x5 ≤ 9223372036854775807) (r6 : (-9223372036854775808) ≤ x6 ∧ x6 ≤ 9223372036854775807) (r7 : (-9223372036854775808) ≤ x7 ∧ x7 ≤ 9223372036854775807) (r8 : (-9223372036854775808) ≤ x8 ∧ x8 ≤ 9223372036854775807) (r9 : (-9223372036854775808) ≤ x9 ∧ x9 ≤ 9223372036854775807) (r10 : (-9223372036854775808) ≤ x10 ∧ x10 ≤ 9223372036854775807) (r11 : (-9223372036854775808) ≤ x11 ∧ x11 ≤ 9223372036854775807) (r12 : (-9223372036854775808) ≤ x12 ∧ x12 ≤ 9223372036854775807) (r13 : (-9223372036854775808) ≤ x13 ∧ x13 ≤ 9223372036854775807) (r14 : (-9223372036854775808) ≤ x14 ∧ x14 ≤ 9223372036854775807) (r15 : (-9223372036854775808) ≤ x15 ∧ x15 ≤ 9223372036854775807) {R : Int → Int → Int → Int → Int → Int → Int → Prop}
  (H : (∃ v16 : Int, Spec Tryz.prog meter_CheckMatrix_s ⟨[x0, x1, x2, x3, x4, x5, x6, x7, x8, x9], [], []⟩ [v16] [] [] ∧
   (∃ v17 : Int, Spec Tryz.prog meter_CheckSums_s ⟨[x10, x11, x12, x13, x14, x15], [], []⟩ [v17] [] [] ∧
   ((((v16 : Int) == 0) = true → ((((v17 : Int) == 0) = true → (∃ v18 : Int, ∃ v19 : Int, ∃ v20 : Int, ∃ v21 : Int, ∃ v22 : Int, ∃ v23 : Int, ∃ v24 : Int, ∃ v25 : Int, ∃ v26 : Int, ∃ v27 : Int, Spec Tryz.prog meter_inverse_s ⟨[x0, x1, x2, x3, x4, x5, x6, x7, x8, x9], [], []⟩ [v18, v19, v20, v21, v22, v23, v24, v25, v26, v27] [] [] ∧
     ((((v27 : Int) == 0) = true → R (0) (0) (0) (0) (0) (0) (28)) ∧
     (((v27 : Int) == 0) = false → (∃ v28 : Int, ∃ v29 : Int, ∃ v30 : Int, ∃ v31 : Int, ∃ v32 : Int, ∃ v33 : Int, Spec Tryz.prog meter_seen_s ⟨[v18, v19, v20, v21, v22, v23, v24, v25, v26, v27, x10, x11, x12, x13, x14, x15], [], []⟩ [v28, v29, v30, v31, v32, v33] [] [] ∧
      (∃ v34 : Int, ∃ v35 : Int, ∃ v36 : Int, ∃ v37 : Int, ∃ v38 : Int, ∃ v39 : Int, ∃ v40 : Int, Spec Tryz.prog meter_resultingSums_s ⟨[v28, v29, v30, v31, v32, v33], [], []⟩ [v34, v35, v36, v37, v38, v39, v40] [] [] ∧
      R (v34) (v35) (v36) (v37) (v38) (v39) (v40))))))) ∧
    (((v17 : Int) == 0) = false → R (0) (0) (0) (0) (0) (0) (v17)))) ∧
   (((v16 : Int) == 0) = false → R (0) (0) (0) (0) (0) (0) (v16)))))) :
    ∃ v0 : Int, ∃ v1 : Int, ∃ v2 : Int, ∃ v3 : Int, ∃ v4 : Int, ∃ v5 : Int, ∃ v6 : Int, R v0 v1 v2 v3 v4 v5 v6 ∧ Spec Tryz.prog meter_Corrected_s ⟨[x0, x1, x2, x3, x4, x5, x6, x7, x8, x9, x10, x11, x12, x13, x14, x15], [], []⟩ [v0, v1, v2, v3, v4, v5, v6] [] [] :=
  Eq.mp (by kernel_rfl) (exV_of (K := fun d => app3 meter_Corrected_s.out R d ∧ Spec Tryz.prog meter_Corrected_s ⟨[x0, x1, x2, x3, x4, x5, x6, x7, x8, x9, x10, x11, x12, x13, x14, x15], [], []⟩ d.1 d.2.1 d.2.2) (tree_at mixed names S1_ok (S := S1 Tryz.prog) (lf := 100000) (d := 60) meter_Corrected_s co_t { ivs := [(0, (-9223372036854775808), 9223372036854775807), (1, (-9223372036854775808), 9223372036854775807), (2, (-9223372036854775808), 9223372036854775807), (3, (-9223372036854775808), 9223372036854775807), (4, (-9223372036854775808), 9223372036854775807), (5, (-9223372036854775808), 9223372036854775807), (6, (-9223372036854775808), 9223372036854775807), (7, (-9223372036854775808), 9223372036854775807), (8, (-9223372036854775808), 9223372036854775807), (9, (-9223372036854775808), 9223372036854775807), (10, (-9223372036854775808), 9223372036854775807), (11, (-9223372036854775808), 9223372036854775807), (12, (-9223372036854775808), 9223372036854775807), (13, (-9223372036854775808), 9223372036854775807), (14, (-9223372036854775808), 9223372036854775807), (15, (-9223372036854775808), 9223372036854775807)], aivs := [] } ⟨[x0, x1, x2, x3, x4, x5, x6, x7, x8, x9, x10, x11, x12, x13, x14, x15], [], []⟩ rfl (by kernel_rfl) (by kernel_rfl) (by kernel_rfl) ⟨(fc r0 (fc r1 (fc r2 (fc r3 (fc r4 (fc r5 (fc r6 (fc r7 (fc r8 (fc r9 (fc r10 (fc r11 (fc r12 (fc r13 (fc r14 (fc r15 fz)))))))))))))))), fz, fz, fz⟩ (R := fun d => app3 meter_Corrected_s.out R d) (Eq.mp (by kernel_rfl) H)))

def ap_t : Tr :=
  (.call etalonbase_Floor_s ⟨[(.bin .addI (.bin .addI (.bin .minI (.bin .mulI (.var 0) (.var 10)) (.bin .mulI (.var 0) (.var 11))) (.bin .minI (.bin .mulI (.var 1) (.var 12)) (.bin .mulI (.var 1) (.var 13)))) (.bin .minI (.bin .mulI (.var 2) (.var 14)) (.bin .mulI (.var 2) (.var 15)))), (.var 9)], [], []⟩ ⟨[(.bin .addI (.bin .addI (.bin .minI (.bin .mulI (.var 0) (.var 10)) (.bin .mulI (.var 0) (.var 11))) (.bin .minI (.bin .mulI (.var 1) (.var 12)) (.bin .mulI (.var 1) (.var 13)))) (.bin .minI (.bin .mulI (.var 2) (.var 14)) (.bin .mulI (.var 2) (.var 15)))), (.var 9), (.var 16)], [], []⟩ ⟨75, [(.int .i64 (.bin .addI (.bin .addI (.bin .minI (.bin .mulI (.var 0) (.var 10)) (.bin .mulI (.var 0) (.var 11))) (.bin .minI (.bin .mulI (.var 1) (.var 12)) (.bin .mulI (.var 1) (.var 13)))) (.bin .minI (.bin .mulI (.var 2) (.var 14)) (.bin .mulI (.var 2) (.var 15))))), (.int .i64 (.var 9))], [], [none, none, none, none, none], (.int .i64 (.var 16)), []⟩
  (.call etalonbase_Ceil_s ⟨[(.bin .addI (.bin .addI (.bin .maxI (.bin .mulI (.var 0) (.var 10)) (.bin .mulI (.var 0) (.var 11))) (.bin .maxI (.bin .mulI (.var 1) (.var 12)) (.bin .mulI (.var 1) (.var 13)))) (.bin .maxI (.bin .mulI (.var 2) (.var 14)) (.bin .mulI (.var 2) (.var 15)))), (.var 9)], [], []⟩ ⟨[(.bin .addI (.bin .addI (.bin .maxI (.bin .mulI (.var 0) (.var 10)) (.bin .mulI (.var 0) (.var 11))) (.bin .maxI (.bin .mulI (.var 1) (.var 12)) (.bin .mulI (.var 1) (.var 13)))) (.bin .maxI (.bin .mulI (.var 2) (.var 14)) (.bin .mulI (.var 2) (.var 15)))), (.var 9), (.var 17)], [], []⟩ ⟨76, [(.int .i64 (.bin .addI (.bin .addI (.bin .maxI (.bin .mulI (.var 0) (.var 10)) (.bin .mulI (.var 0) (.var 11))) (.bin .maxI (.bin .mulI (.var 1) (.var 12)) (.bin .mulI (.var 1) (.var 13)))) (.bin .maxI (.bin .mulI (.var 2) (.var 14)) (.bin .mulI (.var 2) (.var 15))))), (.int .i64 (.var 9))], [], [none, none, none, none, none], (.int .i64 (.var 17)), []⟩
  (.ite (.icmp .leq (.lit (-10000000)) (.var 16))
  (.ite (.icmp .leq (.var 16) (.lit 10000000))
   (.ite (.icmp .leq (.lit (-10000000)) (.var 17))
    (.ite (.icmp .leq (.var 17) (.lit 10000000))
     (.call etalonbase_Floor_s ⟨[(.bin .addI (.bin .addI (.bin .minI (.bin .mulI (.var 3) (.var 10)) (.bin .mulI (.var 3) (.var 11))) (.bin .minI (.bin .mulI (.var 4) (.var 12)) (.bin .mulI (.var 4) (.var 13)))) (.bin .minI (.bin .mulI (.var 5) (.var 14)) (.bin .mulI (.var 5) (.var 15)))), (.var 9)], [], []⟩ ⟨[(.bin .addI (.bin .addI (.bin .minI (.bin .mulI (.var 3) (.var 10)) (.bin .mulI (.var 3) (.var 11))) (.bin .minI (.bin .mulI (.var 4) (.var 12)) (.bin .mulI (.var 4) (.var 13)))) (.bin .minI (.bin .mulI (.var 5) (.var 14)) (.bin .mulI (.var 5) (.var 15)))), (.var 9), (.var 18)], [], []⟩ ⟨75, [(.int .i64 (.bin .addI (.bin .addI (.bin .minI (.bin .mulI (.var 3) (.var 10)) (.bin .mulI (.var 3) (.var 11))) (.bin .minI (.bin .mulI (.var 4) (.var 12)) (.bin .mulI (.var 4) (.var 13)))) (.bin .minI (.bin .mulI (.var 5) (.var 14)) (.bin .mulI (.var 5) (.var 15))))), (.int .i64 (.var 9))], [], [none, none, none, none, none], (.int .i64 (.var 18)), []⟩
      (.call etalonbase_Ceil_s ⟨[(.bin .addI (.bin .addI (.bin .maxI (.bin .mulI (.var 3) (.var 10)) (.bin .mulI (.var 3) (.var 11))) (.bin .maxI (.bin .mulI (.var 4) (.var 12)) (.bin .mulI (.var 4) (.var 13)))) (.bin .maxI (.bin .mulI (.var 5) (.var 14)) (.bin .mulI (.var 5) (.var 15)))), (.var 9)], [], []⟩ ⟨[(.bin .addI (.bin .addI (.bin .maxI (.bin .mulI (.var 3) (.var 10)) (.bin .mulI (.var 3) (.var 11))) (.bin .maxI (.bin .mulI (.var 4) (.var 12)) (.bin .mulI (.var 4) (.var 13)))) (.bin .maxI (.bin .mulI (.var 5) (.var 14)) (.bin .mulI (.var 5) (.var 15)))), (.var 9), (.var 19)], [], []⟩ ⟨76, [(.int .i64 (.bin .addI (.bin .addI (.bin .maxI (.bin .mulI (.var 3) (.var 10)) (.bin .mulI (.var 3) (.var 11))) (.bin .maxI (.bin .mulI (.var 4) (.var 12)) (.bin .mulI (.var 4) (.var 13)))) (.bin .maxI (.bin .mulI (.var 5) (.var 14)) (.bin .mulI (.var 5) (.var 15))))), (.int .i64 (.var 9))], [], [none, none, none, none, none], (.int .i64 (.var 19)), []⟩
      (.ite (.icmp .leq (.lit (-10000000)) (.var 18))
      (.ite (.icmp .leq (.var 18) (.lit 10000000))
       (.ite (.icmp .leq (.lit (-10000000)) (.var 19))
        (.ite (.icmp .leq (.var 19) (.lit 10000000))
         (.call etalonbase_Floor_s ⟨[(.bin .addI (.bin .addI (.bin .minI (.bin .mulI (.var 6) (.var 10)) (.bin .mulI (.var 6) (.var 11))) (.bin .minI (.bin .mulI (.var 7) (.var 12)) (.bin .mulI (.var 7) (.var 13)))) (.bin .minI (.bin .mulI (.var 8) (.var 14)) (.bin .mulI (.var 8) (.var 15)))), (.var 9)], [], []⟩ ⟨[(.bin .addI (.bin .addI (.bin .minI (.bin .mulI (.var 6) (.var 10)) (.bin .mulI (.var 6) (.var 11))) (.bin .minI (.bin .mulI (.var 7) (.var 12)) (.bin .mulI (.var 7) (.var 13)))) (.bin .minI (.bin .mulI (.var 8) (.var 14)) (.bin .mulI (.var 8) (.var 15)))), (.var 9), (.var 20)], [], []⟩ ⟨75, [(.int .i64 (.bin .addI (.bin .addI (.bin .minI (.bin .mulI (.var 6) (.var 10)) (.bin .mulI (.var 6) (.var 11))) (.bin .minI (.bin .mulI (.var 7) (.var 12)) (.bin .mulI (.var 7) (.var 13)))) (.bin .minI (.bin .mulI (.var 8) (.var 14)) (.bin .mulI (.var 8) (.var 15))))), (.int .i64 (.var 9))], [], [none, none, none, none, none], (.int .i64 (.var 20)), []⟩
          (.call etalonbase_Ceil_s ⟨[(.bin .addI (.bin .addI (.bin .maxI (.bin .mulI (.var 6) (.var 10)) (.bin .mulI (.var 6) (.var 11))) (.bin .maxI (.bin .mulI (.var 7) (.var 12)) (.bin .mulI (.var 7) (.var 13)))) (.bin .maxI (.bin .mulI (.var 8) (.var 14)) (.bin .mulI (.var 8) (.var 15)))), (.var 9)], [], []⟩ ⟨[(.bin .addI (.bin .addI (.bin .maxI (.bin .mulI (.var 6) (.var 10)) (.bin .mulI (.var 6) (.var 11))) (.bin .maxI (.bin .mulI (.var 7) (.var 12)) (.bin .mulI (.var 7) (.var 13)))) (.bin .maxI (.bin .mulI (.var 8) (.var 14)) (.bin .mulI (.var 8) (.var 15)))), (.var 9), (.var 21)], [], []⟩ ⟨76, [(.int .i64 (.bin .addI (.bin .addI (.bin .maxI (.bin .mulI (.var 6) (.var 10)) (.bin .mulI (.var 6) (.var 11))) (.bin .maxI (.bin .mulI (.var 7) (.var 12)) (.bin .mulI (.var 7) (.var 13)))) (.bin .maxI (.bin .mulI (.var 8) (.var 14)) (.bin .mulI (.var 8) (.var 15))))), (.int .i64 (.var 9))], [], [none, none, none, none, none], (.int .i64 (.var 21)), []⟩
          (.ite (.icmp .leq (.lit (-10000000)) (.var 20))
          (.ite (.icmp .leq (.var 20) (.lit 10000000))
           (.ite (.icmp .leq (.lit (-10000000)) (.var 21))
            (.ite (.icmp .leq (.var 21) (.lit 10000000))
             (.ret ⟨[(.var 16), (.var 17), (.var 18), (.var 19), (.var 20), (.var 21), (.lit 0)], [], []⟩ [])
             (.ret ⟨[(.lit 0), (.lit 0), (.lit 0), (.lit 0), (.lit 0), (.lit 0), (.lit 8)], [], []⟩ []))
            (.ret ⟨[(.lit 0), (.lit 0), (.lit 0), (.lit 0), (.lit 0), (.lit 0), (.lit 8)], [], []⟩ []))
           (.ret ⟨[(.lit 0), (.lit 0), (.lit 0), (.lit 0), (.lit 0), (.lit 0), (.lit 8)], [], []⟩ []))
          (.ret ⟨[(.lit 0), (.lit 0), (.lit 0), (.lit 0), (.lit 0), (.lit 0), (.lit 8)], [], []⟩ []))))
         (.ret ⟨[(.lit 0), (.lit 0), (.lit 0), (.lit 0), (.lit 0), (.lit 0), (.lit 8)], [], []⟩ []))
        (.ret ⟨[(.lit 0), (.lit 0), (.lit 0), (.lit 0), (.lit 0), (.lit 0), (.lit 8)], [], []⟩ []))
       (.ret ⟨[(.lit 0), (.lit 0), (.lit 0), (.lit 0), (.lit 0), (.lit 0), (.lit 8)], [], []⟩ []))
      (.ret ⟨[(.lit 0), (.lit 0), (.lit 0), (.lit 0), (.lit 0), (.lit 0), (.lit 8)], [], []⟩ []))))
     (.ret ⟨[(.lit 0), (.lit 0), (.lit 0), (.lit 0), (.lit 0), (.lit 0), (.lit 8)], [], []⟩ []))
    (.ret ⟨[(.lit 0), (.lit 0), (.lit 0), (.lit 0), (.lit 0), (.lit 0), (.lit 8)], [], []⟩ []))
   (.ret ⟨[(.lit 0), (.lit 0), (.lit 0), (.lit 0), (.lit 0), (.lit 0), (.lit 8)], [], []⟩ []))
  (.ret ⟨[(.lit 0), (.lit 0), (.lit 0), (.lit 0), (.lit 0), (.lit 0), (.lit 8)], [], []⟩ []))))
theorem ap {x0 x1 x2 x3 x4 x5 x6 x7 x8 x9 x10 x11 x12 x13 x14 x15 : Int} (r0 : (-2000000000) ≤ x0 ∧ x0 ≤ 2000000000) (r1 : (-2000000000) ≤ x1 ∧ x1 ≤ 2000000000) (r2 : (-2000000000) ≤ x2 ∧ x2 ≤ 2000000000) (r3 : (-2000000000) ≤ x3 ∧ x3 ≤ 2000000000) (r4 : (-2000000000) ≤ x4 ∧ x4 ≤ 2000000000) (r5 : (-2000000000) ≤ x5 ∧ x5 ≤ 2000000000) (r6 : (-2000000000) ≤ x6 ∧ x6 ≤ 2000000000) (r7 : (-2000000000) ≤ x7 ∧ x7 ≤ 2000000000) (r8 : (-2000000000) ≤ x8 ∧ x8 ≤ 2000000000) (r9 : 1 ≤ x9 ∧ x9 ≤ 6000000000) (r10 : (-10000000) ≤ x10 ∧ x10 ≤ 10000000) (r11 : (-10000000) ≤ x11 ∧ x11 ≤ 10000000) (r12 : (-10000000) ≤ x12 ∧ x12 ≤ 10000000) (r13 : (-10000000) ≤ x13 ∧ x13 ≤ 10000000) (r14 : (-10000000) ≤ x14 ∧ x14 ≤ 10000000) (r15 : (-10000000) ≤ x15 ∧ x15 ≤ 10000000) {R : Int → Int → Int → Int → Int → Int → Int → Prop}
  (H : (∃ v16 : Int, Spec Tryz.prog etalonbase_Floor_s ⟨[(((if ((x0 * x11) : Int) < (x0 * x10) then (x0 * x11) else (x0 * x10)) + (if ((x1 * x13) : Int) < (x1 * x12) then (x1 * x13) else (x1 * x12))) + (if ((x2 * x15) : Int) < (x2 * x14) then (x2 * x15) else (x2 * x14))), x9], [], []⟩ [v16] [] [] ∧
   (∃ v17 : Int, Spec Tryz.prog etalonbase_Ceil_s ⟨[(((if ((x0 * x11) : Int) > (x0 * x10) then (x0 * x11) else (x0 * x10)) + (if ((x1 * x13) : Int) > (x1 * x12) then (x1 * x13) else (x1 * x12))) + (if ((x2 * x15) : Int) > (x2 * x14) then (x2 * x15) else (x2 * x14))), x9], [], []⟩ [v17] [] [] ∧
   ((decide (((-10000000) : Int) ≤ v16) = true → ((decide ((v16 : Int) ≤ 10000000) = true → ((decide (((-10000000) : Int) ≤ v17) = true → ((decide ((v17 : Int) ≤ 10000000) = true → (∃ v18 : Int, Spec Tryz.prog etalonbase_Floor_s ⟨[(((if ((x3 * x11) : Int) < (x3 * x10) then (x3 * x11) else (x3 * x10)) + (if ((x4 * x13) : Int) < (x4 * x12) then (x4 * x13) else (x4 * x12))) + (if ((x5 * x15) : Int) < (x5 * x14) then (x5 * x15) else (x5 * x14))), x9], [], []⟩ [v18] [] [] ∧
       (∃ v19 : Int, Spec Tryz.prog etalonbase_Ceil_s ⟨[(((if ((x3 * x11) : Int) > (x3 * x10) then (x3 * x11) else (x3 * x10)) + (if ((x4 * x13) : Int) > (x4 * x12) then (x4 * x13) else (x4 * x12))) + (if ((x5 * x15) : Int) > (x5 * x14) then (x5 * x15) else (x5 * x14))), x9], [], []⟩ [v19] [] [] ∧
       ((decide (((-10000000) : Int) ≤ v18) = true → ((decide ((v18 : Int) ≤ 10000000) = true → ((decide (((-10000000) : Int) ≤ v19) = true → ((decide ((v19 : Int) ≤ 10000000) = true → (∃ v20 : Int, Spec Tryz.prog etalonbase_Floor_s ⟨[(((if ((x6 * x11) : Int) < (x6 * x10) then (x6 * x11) else (x6 * x10)) + (if ((x7 * x13) : Int) < (x7 * x12) then (x7 * x13) else (x7 * x12))) + (if ((x8 * x15) : Int) < (x8 * x14) then (x8 * x15) else (x8 * x14))), x9], [], []⟩ [v20] [] [] ∧
           (∃ v21 : Int, Spec Tryz.prog etalonbase_Ceil_s ⟨[(((if ((x6 * x11) : Int) > (x6 * x10) then (x6 * x11) else (x6 * x10)) + (if ((x7 * x13) : Int) > (x7 * x12) then (x7 * x13) else (x7 * x12))) + (if ((x8 * x15) : Int) > (x8 * x14) then (x8 * x15) else (x8 * x14))), x9], [], []⟩ [v21] [] [] ∧
           ((decide (((-10000000) : Int) ≤ v20) = true → ((decide ((v20 : Int) ≤ 10000000) = true → ((decide (((-10000000) : Int) ≤ v21) = true → ((decide ((v21 : Int) ≤ 10000000) = true → R (v16) (v17) (v18) (v19) (v20) (v21) (0)) ∧
              (decide ((v21 : Int) ≤ 10000000) = false → R (0) (0) (0) (0) (0) (0) (8)))) ∧
             (decide (((-10000000) : Int) ≤ v21) = false → R (0) (0) (0) (0) (0) (0) (8)))) ∧
            (decide ((v20 : Int) ≤ 10000000) = false → R (0) (0) (0) (0) (0) (0) (8)))) ∧
           (decide (((-10000000) : Int) ≤ v20) = false → R (0) (0) (0) (0) (0) (0) (8)))))) ∧
          (decide ((v19 : Int) ≤ 10000000) = false → R (0) (0) (0) (0) (0) (0) (8)))) ∧
         (decide (((-10000000) : Int) ≤ v19) = false → R (0) (0) (0) (0) (0) (0) (8)))) ∧
        (decide ((v18 : Int) ≤ 10000000) = false → R (0) (0) (0) (0) (0) (0) (8)))) ∧
       (decide (((-10000000) : Int) ≤ v18) = false → R (0) (0) (0) (0) (0) (0) (8)))))) ∧
      (decide ((v17 : Int) ≤ 10000000) = false → R (0) (0) (0) (0) (0) (0) (8)))) ∧
     (decide (((-10000000) : Int) ≤ v17) = false → R (0) (0) (0) (0) (0) (0) (8)))) ∧
    (decide ((v16 : Int) ≤ 10000000) = false → R (0) (0) (0) (0) (0) (0) (8)))) ∧
   (decide (((-10000000) : Int) ≤ v16) = false → R (0) (0) (0) (0) (0) (0) (8)))))) :
    ∃ v0 : Int, ∃ v1 : Int, ∃ v2 : Int, ∃ v3 : Int, ∃ v4 : Int, ∃ v5 : Int, ∃ v6 : Int, R v0 v1 v2 v3 v4 v5 v6 ∧ Spec Tryz.prog etalonref06_applied_s ⟨[x0, x1, x2, x3, x4, x5, x6, x7, x8, x9, x10, x11, x12, x13, x14, x15], [], []⟩ [v0, v1, v2, v3, v4, v5, v6] [] [] :=
  Eq.mp (by kernel_rfl) (exV_of (K := fun d => app3 etalonref06_applied_s.out R d ∧ Spec Tryz.prog etalonref06_applied_s ⟨[x0, x1, x2, x3, x4, x5, x6, x7, x8, x9, x10, x11, x12, x13, x14, x15], [], []⟩ d.1 d.2.1 d.2.2) (tree_at mixed names S1_ok (S := S1 Tryz.prog) (lf := 100000) (d := 60) etalonref06_applied_s ap_t { ivs := [(0, (-2000000000), 2000000000), (1, (-2000000000), 2000000000), (2, (-2000000000), 2000000000), (3, (-2000000000), 2000000000), (4, (-2000000000), 2000000000), (5, (-2000000000), 2000000000), (6, (-2000000000), 2000000000), (7, (-2000000000), 2000000000), (8, (-2000000000), 2000000000), (9, 1, 6000000000), (10, (-10000000), 10000000), (11, (-10000000), 10000000), (12, (-10000000), 10000000), (13, (-10000000), 10000000), (14, (-10000000), 10000000), (15, (-10000000), 10000000)], aivs := [] } ⟨[x0, x1, x2, x3, x4, x5, x6, x7, x8, x9, x10, x11, x12, x13, x14, x15], [], []⟩ rfl (by kernel_rfl) (by kernel_rfl) (by kernel_rfl) ⟨(fc r0 (fc r1 (fc r2 (fc r3 (fc r4 (fc r5 (fc r6 (fc r7 (fc r8 (fc r9 (fc r10 (fc r11 (fc r12 (fc r13 (fc r14 (fc r15 fz)))))))))))))))), fz, fz, fz⟩ (R := fun d => app3 etalonref06_applied_s.out R d) (Eq.mp (by kernel_rfl) H)))

def rse_t : Tr :=
  (.call etalonref06_applied_s ⟨[(.var 0), (.var 1), (.var 2), (.var 3), (.var 4), (.var 5), (.var 6), (.var 7), (.var 8), (.var 9), (.var 10), (.var 11), (.var 12), (.var 13), (.var 14), (.var 15)], [], []⟩ ⟨[(.var 0), (.var 1), (.var 2), (.var 3), (.var 4), (.var 5), (.var 6), (.var 7), (.var 8), (.var 9), (.var 10), (.var 11), (.var 12), (.var 13), (.var 14), (.var 15), (.var 16), (.var 17), (.var 18), (.var 19), (.var 20), (.var 21), (.var 22)], [], []⟩ ⟨54, [(.agg [(.int .i64 (.var 0)), (.int .i64 (.var 1)), (.int .i64 (.var 2)), (.int .i64 (.var 3)), (.int .i64 (.var 4)), (.int .i64 (.var 5)), (.int .i64 (.var 6)), (.int .i64 (.var 7)), (.int .i64 (.var 8))]), (.int .i64 (.var 9)), (.agg [(.int .i64 (.var 10)), (.int .i64 (.var 11)), (.int .i64 (.var 12)), (.int .i64 (.var 13)), (.int .i64 (.var 14)), (.int .i64 (.var 15))])], [], [none, none, none], (.tuple [(.agg [(.int .i64 (.var 16)), (.int .i64 (.var 17)), (.int .i64 (.var 18)), (.int .i64 (.var 19)), (.int .i64 (.var 20)), (.int .i64 (.var 21))]), (.int .i64 (.var 22))]), []⟩
  (.ret ⟨[(.var 16), (.var 17), (.var 18), (.var 19), (.var 20), (.var 21), (.var 22)], [], []⟩ []))
theorem rse {x0 x1 x2 x3 x4 x5 x6 x7 x8 x9 x10 x11 x12 x13 x14 x15 : Int} (r0 : (-9223372036854775808) ≤ x0 ∧ x0 ≤ 9223372036854775807) (r1 : (-9223372036854775808) ≤ x1 ∧ x1 ≤ 9223372036854775807) (r2 : (-9223372036854775808) ≤ x2 ∧ x2 ≤ 9223372036854775807) (r3 : (-9223372036854775808) ≤ x3 ∧ x3 ≤ 9223372036854775807) (r4 : (-9223372036854775808) ≤ x4 ∧ x4 ≤ 9223372036854775807) (r5 : (-9223372036854775808) ≤ x5 ∧ x5 ≤ 9223372036854775807) (r6 : (-9223372036854775808) ≤ x6 ∧ x6 ≤ 9223372036854775807) (r7 : (-9223372036854775808) ≤ x7 ∧ x7 ≤ 9223372036854775807) (r8 : (-9223372036854775808) ≤ x8 ∧ x8 ≤ 9223372036854775807) (r9 : (-9223372036854775808) ≤ x9 ∧ x9 ≤ 9223372036854775807) (r10 : (-9223372036854775808) ≤ x10 ∧ x10 ≤ 9223372036854775807) (r11 : (-9223372036854775808) ≤ x11 ∧ x11 ≤ 9223372036854775807) (r12 : (-9223372036854775808) ≤ x12 ∧ x12 ≤ 9223372036854775807) (r13 : (-9223372036854775808) ≤ x13 ∧ x13 ≤ 9223372036854775807) (r14 : (-9223372036854775808) ≤ x14 ∧ x14 ≤ 9223372036854775807) (r15 : (-9223372036854775808) ≤ x15 ∧ x15 ≤ 9223372036854775807) {R : Int → Int → Int → Int → Int → Int → Int → Prop}
  (H : (∃ v16 : Int, ∃ v17 : Int, ∃ v18 : Int, ∃ v19 : Int, ∃ v20 : Int, ∃ v21 : Int, ∃ v22 : Int, Spec Tryz.prog etalonref06_applied_s ⟨[x0, x1, x2, x3, x4, x5, x6, x7, x8, x9, x10, x11, x12, x13, x14, x15], [], []⟩ [v16, v17, v18, v19, v20, v21, v22] [] [] ∧
   R (v16) (v17) (v18) (v19) (v20) (v21) (v22))) :
    ∃ v0 : Int, ∃ v1 : Int, ∃ v2 : Int, ∃ v3 : Int, ∃ v4 : Int, ∃ v5 : Int, ∃ v6 : Int, R v0 v1 v2 v3 v4 v5 v6 ∧ Spec Tryz.prog etalonref06_Seen_s ⟨[x0, x1, x2, x3, x4, x5, x6, x7, x8, x9, x10, x11, x12, x13, x14, x15], [], []⟩ [v0, v1, v2, v3, v4, v5, v6] [] [] :=
  Eq.mp (by kernel_rfl) (exV_of (K := fun d => app3 etalonref06_Seen_s.out R d ∧ Spec Tryz.prog etalonref06_Seen_s ⟨[x0, x1, x2, x3, x4, x5, x6, x7, x8, x9, x10, x11, x12, x13, x14, x15], [], []⟩ d.1 d.2.1 d.2.2) (tree_at mixed names S1_ok (S := S1 Tryz.prog) (lf := 100000) (d := 60) etalonref06_Seen_s rse_t { ivs := [(0, (-9223372036854775808), 9223372036854775807), (1, (-9223372036854775808), 9223372036854775807), (2, (-9223372036854775808), 9223372036854775807), (3, (-9223372036854775808), 9223372036854775807), (4, (-9223372036854775808), 9223372036854775807), (5, (-9223372036854775808), 9223372036854775807), (6, (-9223372036854775808), 9223372036854775807), (7, (-9223372036854775808), 9223372036854775807), (8, (-9223372036854775808), 9223372036854775807), (9, (-9223372036854775808), 9223372036854775807), (10, (-9223372036854775808), 9223372036854775807), (11, (-9223372036854775808), 9223372036854775807), (12, (-9223372036854775808), 9223372036854775807), (13, (-9223372036854775808), 9223372036854775807), (14, (-9223372036854775808), 9223372036854775807), (15, (-9223372036854775808), 9223372036854775807)], aivs := [] } ⟨[x0, x1, x2, x3, x4, x5, x6, x7, x8, x9, x10, x11, x12, x13, x14, x15], [], []⟩ rfl (by kernel_rfl) (by kernel_rfl) (by kernel_rfl) ⟨(fc r0 (fc r1 (fc r2 (fc r3 (fc r4 (fc r5 (fc r6 (fc r7 (fc r8 (fc r9 (fc r10 (fc r11 (fc r12 (fc r13 (fc r14 (fc r15 fz)))))))))))))))), fz, fz, fz⟩ (R := fun d => app3 etalonref06_Seen_s.out R d) (Eq.mp (by kernel_rfl) H)))

def szw_t : Tr :=
  (.ret ⟨[(.bin .maxI (.var 0) (.bin (.subW .i64) (.lit 0) (.var 0)))], [], []⟩ [])
theorem szw {x0 : Int} (r0 : (-9223372036854775808) ≤ x0 ∧ x0 ≤ 9223372036854775807) {R : Int → Prop}
  (H : R ((if (IntKind.i64.wrap (0 - x0) : Int) > x0 then IntKind.i64.wrap (0 - x0) else x0))) :
    ∃ v0 : Int, R v0 ∧ Spec Tryz.prog etalonbase_Size_s ⟨[x0], [], []⟩ [v0] [] [] :=
  Eq.mp (by kernel_rfl) (exV_of (K := fun d => app3 etalonbase_Size_s.out R d ∧ Spec Tryz.prog etalonbase_Size_s ⟨[x0], [], []⟩ d.1 d.2.1 d.2.2) (tree_at mixed names S1_ok (S := S1 Tryz.prog) (lf := 100000) (d := 60) etalonbase_Size_s szw_t { ivs := [(0, (-9223372036854775808), 9223372036854775807)], aivs := [] } ⟨[x0], [], []⟩ rfl (by kernel_rfl) (by kernel_rfl) (by kernel_rfl) ⟨(fc r0 fz), fz, fz, fz⟩ (R := fun d => app3 etalonbase_Size_s.out R d) (Eq.mp (by kernel_rfl) H)))

def rco_t : Tr :=
  (.ite (.icmp .eql (.bin .addI (.bin .addI (.bin .mulI (.var 0) (.bin .subI (.bin .mulI (.var 4) (.var 8)) (.bin .mulI (.var 5) (.var 7)))) (.bin .mulI (.var 1) (.bin .subI (.bin .mulI (.var 5) (.var 6)) (.bin .mulI (.var 3) (.var 8))))) (.bin .mulI (.var 2) (.bin .subI (.bin .mulI (.var 3) (.var 7)) (.bin .mulI (.var 4) (.var 6))))) (.lit 0))
  (.ret ⟨[(.lit 0), (.lit 0), (.lit 0), (.lit 0), (.lit 0), (.lit 0), (.lit 28)], [], []⟩ [])
  (.ite (.icmp .leq (.lit 0) (.bin .addI (.bin .addI (.bin .mulI (.var 0) (.bin .subI (.bin .mulI (.var 4) (.var 8)) (.bin .mulI (.var 5) (.var 7)))) (.bin .mulI (.var 1) (.bin .subI (.bin .mulI (.var 5) (.var 6)) (.bin .mulI (.var 3) (.var 8))))) (.bin .mulI (.var 2) (.bin .subI (.bin .mulI (.var 3) (.var 7)) (.bin .mulI (.var 4) (.var 6))))))
   (.call etalonbase_Size_s ⟨[(.bin .addI (.bin .addI (.bin .mulI (.var 0) (.bin .subI (.bin .mulI (.var 4) (.var 8)) (.bin .mulI (.var 5) (.var 7)))) (.bin .mulI (.var 1) (.bin .subI (.bin .mulI (.var 5) (.var 6)) (.bin .mulI (.var 3) (.var 8))))) (.bin .mulI (.var 2) (.bin .subI (.bin .mulI (.var 3) (.var 7)) (.bin .mulI (.var 4) (.var 6)))))], [], []⟩ ⟨[(.bin .addI (.bin .addI (.bin .mulI (.var 0) (.bin .subI (.bin .mulI (.var 4) (.var 8)) (.bin .mulI (.var 5) (.var 7)))) (.bin .mulI (.var 1) (.bin .subI (.bin .mulI (.var 5) (.var 6)) (.bin .mulI (.var 3) (.var 8))))) (.bin .mulI (.var 2) (.bin .subI (.bin .mulI (.var 3) (.var 7)) (.bin .mulI (.var 4) (.var 6))))), (.var 16)], [], []⟩ ⟨56, [(.int .i64 (.bin .addI (.bin .addI (.bin .mulI (.var 0) (.bin .subI (.bin .mulI (.var 4) (.var 8)) (.bin .mulI (.var 5) (.var 7)))) (.bin .mulI (.var 1) (.bin .subI (.bin .mulI (.var 5) (.var 6)) (.bin .mulI (.var 3) (.var 8))))) (.bin .mulI (.var 2) (.bin .subI (.bin .mulI (.var 3) (.var 7)) (.bin .mulI (.var 4) (.var 6))))))], [], [none, none, none, none], (.int .i64 (.var 16)), []⟩
    (.call etalonref06_applied_s ⟨[(.bin .mulI (.bin .subI (.bin .mulI (.var 4) (.var 8)) (.bin .mulI (.var 5) (.var 7))) (.var 9)), (.bin .mulI (.bin .subI (.bin .mulI (.var 7) (.var 2)) (.bin .mulI (.var 8) (.var 1))) (.var 9)), (.bin .mulI (.bin .subI (.bin .mulI (.var 1) (.var 5)) (.bin .mulI (.var 2) (.var 4))) (.var 9)), (.bin .mulI (.bin .subI (.bin .mulI (.var 5) (.var 6)) (.bin .mulI (.var 3) (.var 8))) (.var 9)), (.bin .mulI (.bin .subI (.bin .mulI (.var 8) (.var 0)) (.bin .mulI (.var 6) (.var 2))) (.var 9)), (.bin .mulI (.bin .subI (.bin .mulI (.var 2) (.var 3)) (.bin .mulI (.var 0) (.var 5))) (.var 9)), (.bin .mulI (.bin .subI (.bin .mulI (.var 3) (.var 7)) (.bin .mulI (.var 4) (.var 6))) (.var 9)), (.bin .mulI (.bin .subI (.bin .mulI (.var 6) (.var 1)) (.bin .mulI (.var 7) (.var 0))) (.var 9)), (.bin .mulI (.bin .subI (.bin .mulI (.var 0) (.var 4)) (.bin .mulI (.var 1) (.var 3))) (.var 9)), (.var 16), (.var 10), (.var 11), (.var 12), (.var 13), (.var 14), (.var 15)], [], []⟩ ⟨[(.bin .mulI (.bin .subI (.bin .mulI (.var 4) (.var 8)) (.bin .mulI (.var 5) (.var 7))) (.var 9)), (.bin .mulI (.bin .subI (.bin .mulI (.var 7) (.var 2)) (.bin .mulI (.var 8) (.var 1))) (.var 9)), (.bin .mulI (.bin .subI (.bin .mulI (.var 1) (.var 5)) (.bin .mulI (.var 2) (.var 4))) (.var 9)), (.bin .mulI (.bin .subI (.bin .mulI (.var 5) (.var 6)) (.bin .mulI (.var 3) (.var 8))) (.var 9)), (.bin .mulI (.bin .subI (.bin .mulI (.var 8) (.var 0)) (.bin .mulI (.var 6) (.var 2))) (.var 9)), (.bin .mulI (.bin .subI (.bin .mulI (.var 2) (.var 3)) (.bin .mulI (.var 0) (.var 5))) (.var 9)), (.bin .mulI (.bin .subI (.bin .mulI (.var 3) (.var 7)) (.bin .mulI (.var 4) (.var 6))) (.var 9)), (.bin .mulI (.bin .subI (.bin .mulI (.var 6) (.var 1)) (.bin .mulI (.var 7) (.var 0))) (.var 9)), (.bin .mulI (.bin .subI (.bin .mulI (.var 0) (.var 4)) (.bin .mulI (.var 1) (.var 3))) (.var 9)), (.var 16), (.var 10), (.var 11), (.var 12), (.var 13), (.var 14), (.var 15), (.var 17), (.var 18), (.var 19), (.var 20), (.var 21), (.var 22), (.var 23)], [], []⟩ ⟨54, [(.agg [(.int .i64 (.bin .mulI (.bin .subI (.bin .mulI (.var 4) (.var 8)) (.bin .mulI (.var 5) (.var 7))) (.var 9))), (.int .i64 (.bin .mulI (.bin .subI (.bin .mulI (.var 7) (.var 2)) (.bin .mulI (.var 8) (.var 1))) (.var 9))), (.int .i64 (.bin .mulI (.bin .subI (.bin .mulI (.var 1) (.var 5)) (.bin .mulI (.var 2) (.var 4))) (.var 9))), (.int .i64 (.bin .mulI (.bin .subI (.bin .mulI (.var 5) (.var 6)) (.bin .mulI (.var 3) (.var 8))) (.var 9))), (.int .i64 (.bin .mulI (.bin .subI (.bin .mulI (.var 8) (.var 0)) (.bin .mulI (.var 6) (.var 2))) (.var 9))), (.int .i64 (.bin .mulI (.bin .subI (.bin .mulI (.var 2) (.var 3)) (.bin .mulI (.var 0) (.var 5))) (.var 9))), (.int .i64 (.bin .mulI (.bin .subI (.bin .mulI (.var 3) (.var 7)) (.bin .mulI (.var 4) (.var 6))) (.var 9))), (.int .i64 (.bin .mulI (.bin .subI (.bin .mulI (.var 6) (.var 1)) (.bin .mulI (.var 7) (.var 0))) (.var 9))), (.int .i64 (.bin .mulI (.bin .subI (.bin .mulI (.var 0) (.var 4)) (.bin .mulI (.var 1) (.var 3))) (.var 9)))]), (.int .i64 (.var 16)), (.agg [(.int .i64 (.var 10)), (.int .i64 (.var 11)), (.int .i64 (.var 12)), (.int .i64 (.var 13)), (.int .i64 (.var 14)), (.int .i64 (.var 15))])], [], [none, none, none, none], (.tuple [(.agg [(.int .i64 (.var 17)), (.int .i64 (.var 18)), (.int .i64 (.var 19)), (.int .i64 (.var 20)), (.int .i64 (.var 21)), (.int .i64 (.var 22))]), (.int .i64 (.var 23))]), []⟩
    (.ret ⟨[(.var 17), (.var 18), (.var 19), (.var 20), (.var 21), (.var 22), (.var 23)], [], []⟩ [])))
   (.call etalonbase_Size_s ⟨[(.bin .addI (.bin .addI (.bin .mulI (.var 0) (.bin .subI (.bin .mulI (.var 4) (.var 8)) (.bin .mulI (.var 5) (.var 7)))) (.bin .mulI (.var 1) (.bin .subI (.bin .mulI (.var 5) (.var 6)) (.bin .mulI (.var 3) (.var 8))))) (.bin .mulI (.var 2) (.bin .subI (.bin .mulI (.var 3) (.var 7)) (.bin .mulI (.var 4) (.var 6)))))], [], []⟩ ⟨[(.bin .addI (.bin .addI (.bin .mulI (.var 0) (.bin .subI (.bin .mulI (.var 4) (.var 8)) (.bin .mulI (.var 5) (.var 7)))) (.bin .mulI (.var 1) (.bin .subI (.bin .mulI (.var 5) (.var 6)) (.bin .mulI (.var 3) (.var 8))))) (.bin .mulI (.var 2) (.bin .subI (.bin .mulI (.var 3) (.var 7)) (.bin .mulI (.var 4) (.var 6))))), (.var 16)], [], []⟩ ⟨56, [(.int .i64 (.bin .addI (.bin .addI (.bin .mulI (.var 0) (.bin .subI (.bin .mulI (.var 4) (.var 8)) (.bin .mulI (.var 5) (.var 7)))) (.bin .mulI (.var 1) (.bin .subI (.bin .mulI (.var 5) (.var 6)) (.bin .mulI (.var 3) (.var 8))))) (.bin .mulI (.var 2) (.bin .subI (.bin .mulI (.var 3) (.var 7)) (.bin .mulI (.var 4) (.var 6))))))], [], [none, none, none, none], (.int .i64 (.var 16)), []⟩
    (.call etalonref06_applied_s ⟨[(.bin .subI (.lit 0) (.bin .mulI (.bin .subI (.bin .mulI (.var 4) (.var 8)) (.bin .mulI (.var 5) (.var 7))) (.var 9))), (.bin .subI (.lit 0) (.bin .mulI (.bin .subI (.bin .mulI (.var 7) (.var 2)) (.bin .mulI (.var 8) (.var 1))) (.var 9))), (.bin .subI (.lit 0) (.bin .mulI (.bin .subI (.bin .mulI (.var 1) (.var 5)) (.bin .mulI (.var 2) (.var 4))) (.var 9))), (.bin .subI (.lit 0) (.bin .mulI (.bin .subI (.bin .mulI (.var 5) (.var 6)) (.bin .mulI (.var 3) (.var 8))) (.var 9))), (.bin .subI (.lit 0) (.bin .mulI (.bin .subI (.bin .mulI (.var 8) (.var 0)) (.bin .mulI (.var 6) (.var 2))) (.var 9))), (.bin .subI (.lit 0) (.bin .mulI (.bin .subI (.bin .mulI (.var 2) (.var 3)) (.bin .mulI (.var 0) (.var 5))) (.var 9))), (.bin .subI (.lit 0) (.bin .mulI (.bin .subI (.bin .mulI (.var 3) (.var 7)) (.bin .mulI (.var 4) (.var 6))) (.var 9))), (.bin .subI (.lit 0) (.bin .mulI (.bin .subI (.bin .mulI (.var 6) (.var 1)) (.bin .mulI (.var 7) (.var 0))) (.var 9))), (.bin .subI (.lit 0) (.bin .mulI (.bin .subI (.bin .mulI (.var 0) (.var 4)) (.bin .mulI (.var 1) (.var 3))) (.var 9))), (.var 16), (.var 10), (.var 11), (.var 12), (.var 13), (.var 14), (.var 15)], [], []⟩ ⟨[(.bin .subI (.lit 0) (.bin .mulI (.bin .subI (.bin .mulI (.var 4) (.var 8)) (.bin .mulI (.var 5) (.var 7))) (.var 9))), (.bin .subI (.lit 0) (.bin .mulI (.bin .subI (.bin .mulI (.var 7) (.var 2)) (.bin .mulI (.var 8) (.var 1))) (.var 9))), (.bin .subI (.lit 0) (.bin .mulI (.bin .subI (.bin .mulI (.var 1) (.var 5)) (.bin .mulI (.var 2) (.var 4))) (.var 9))), (.bin .subI (.lit 0) (.bin .mulI (.bin .subI (.bin .mulI (.var 5) (.var 6)) (.bin .mulI (.var 3) (.var 8))) (.var 9))), (.bin .subI (.lit 0) (.bin .mulI (.bin .subI (.bin .mulI (.var 8) (.var 0)) (.bin .mulI (.var 6) (.var 2))) (.var 9))), (.bin .subI (.lit 0) (.bin .mulI (.bin .subI (.bin .mulI (.var 2) (.var 3)) (.bin .mulI (.var 0) (.var 5))) (.var 9))), (.bin .subI (.lit 0) (.bin .mulI (.bin .subI (.bin .mulI (.var 3) (.var 7)) (.bin .mulI (.var 4) (.var 6))) (.var 9))), (.bin .subI (.lit 0) (.bin .mulI (.bin .subI (.bin .mulI (.var 6) (.var 1)) (.bin .mulI (.var 7) (.var 0))) (.var 9))), (.bin .subI (.lit 0) (.bin .mulI (.bin .subI (.bin .mulI (.var 0) (.var 4)) (.bin .mulI (.var 1) (.var 3))) (.var 9))), (.var 16), (.var 10), (.var 11), (.var 12), (.var 13), (.var 14), (.var 15), (.var 17), (.var 18), (.var 19), (.var 20), (.var 21), (.var 22), (.var 23)], [], []⟩ ⟨54, [(.agg [(.int .i64 (.bin .subI (.lit 0) (.bin .mulI (.bin .subI (.bin .mulI (.var 4) (.var 8)) (.bin .mulI (.var 5) (.var 7))) (.var 9)))), (.int .i64 (.bin .subI (.lit 0) (.bin .mulI (.bin .subI (.bin .mulI (.var 7) (.var 2)) (.bin .mulI (.var 8) (.var 1))) (.var 9)))), (.int .i64 (.bin .subI (.lit 0) (.bin .mulI (.bin .subI (.bin .mulI (.var 1) (.var 5)) (.bin .mulI (.var 2) (.var 4))) (.var 9)))), (.int .i64 (.bin .subI (.lit 0) (.bin .mulI (.bin .subI (.bin .mulI (.var 5) (.var 6)) (.bin .mulI (.var 3) (.var 8))) (.var 9)))), (.int .i64 (.bin .subI (.lit 0) (.bin .mulI (.bin .subI (.bin .mulI (.var 8) (.var 0)) (.bin .mulI (.var 6) (.var 2))) (.var 9)))), (.int .i64 (.bin .subI (.lit 0) (.bin .mulI (.bin .subI (.bin .mulI (.var 2) (.var 3)) (.bin .mulI (.var 0) (.var 5))) (.var 9)))), (.int .i64 (.bin .subI (.lit 0) (.bin .mulI (.bin .subI (.bin .mulI (.var 3) (.var 7)) (.bin .mulI (.var 4) (.var 6))) (.var 9)))), (.int .i64 (.bin .subI (.lit 0) (.bin .mulI (.bin .subI (.bin .mulI (.var 6) (.var 1)) (.bin .mulI (.var 7) (.var 0))) (.var 9)))), (.int .i64 (.bin .subI (.lit 0) (.bin .mulI (.bin .subI (.bin .mulI (.var 0) (.var 4)) (.bin .mulI (.var 1) (.var 3))) (.var 9))))]), (.int .i64 (.var 16)), (.agg [(.int .i64 (.var 10)), (.int .i64 (.var 11)), (.int .i64 (.var 12)), (.int .i64 (.var 13)), (.int .i64 (.var 14)), (.int .i64 (.var 15))])], [], [none, none, none, none], (.tuple [(.agg [(.int .i64 (.var 17)), (.int .i64 (.var 18)), (.int .i64 (.var 19)), (.int .i64 (.var 20)), (.int .i64 (.var 21)), (.int .i64 (.var 22))]), (.int .i64 (.var 23))]), []⟩
    (.ret ⟨[(.var 17), (.var 18), (.var 19), (.var 20), (.var 21), (.var 22), (.var 23)], [], []⟩ [])))))
theorem rco {x0 x1 x2 x3 x4 x5 x6 x7 x8 x9 x10 x11 x12 x13 x14 x15 : Int} (r0 : (-1000) ≤ x0 ∧ x0 ≤ 1000) (r1 : (-1000) ≤ x1 ∧ x1 ≤ 1000) (r2 : (-1000) ≤ x2 ∧ x2 ≤ 1000) (r3 : (-1000) ≤ x3 ∧ x3 ≤ 1000) (r4 : (-1000) ≤ x4 ∧ x4 ≤ 1000) (r5 : (-1000) ≤ x5 ∧ x5 ≤ 1000) (r6 : (-1000) ≤ x6 ∧ x6 ≤ 1000) (r7 : (-1000) ≤ x7 ∧ x7 ≤ 1000) (r8 : (-1000) ≤ x8 ∧ x8 ≤ 1000) (r9 : 1 ≤ x9 ∧ x9 ≤ 1000) (r10 : (-10000000) ≤ x10 ∧ x10 ≤ 10000000) (r11 : (-10000000) ≤ x11 ∧ x11 ≤ 10000000) (r12 : (-10000000) ≤ x12 ∧ x12 ≤ 10000000) (r13 : (-10000000) ≤ x13 ∧ x13 ≤ 10000000) (r14 : (-10000000) ≤ x14 ∧ x14 ≤ 10000000) (r15 : (-10000000) ≤ x15 ∧ x15 ≤ 10000000) {R : Int → Int → Int → Int → Int → Int → Int → Prop}
  (H : (((((((x0 * ((x4 * x8) - (x5 * x7))) + (x1 * ((x5 * x6) - (x3 * x8)))) + (x2 * ((x3 * x7) - (x4 * x6)))) : Int) == 0) = true → R (0) (0) (0) (0) (0) (0) (28)) ∧
   ((((((x0 * ((x4 * x8) - (x5 * x7))) + (x1 * ((x5 * x6) - (x3 * x8)))) + (x2 * ((x3 * x7) - (x4 * x6)))) : Int) == 0) = false → ((decide ((0 : Int) ≤ (((x0 * ((x4 * x8) - (x5 * x7))) + (x1 * ((x5 * x6) - (x3 * x8)))) + (x2 * ((x3 * x7) - (x4 * x6))))) = true → (∃ v16 : Int, Spec Tryz.prog etalonbase_Size_s ⟨[(((x0 * ((x4 * x8) - (x5 * x7))) + (x1 * ((x5 * x6) - (x3 * x8)))) + (x2 * ((x3 * x7) - (x4 * x6))))], [], []⟩ [v16] [] [] ∧
     (∃ v17 : Int, ∃ v18 : Int, ∃ v19 : Int, ∃ v20 : Int, ∃ v21 : Int, ∃ v22 : Int, ∃ v23 : Int, Spec Tryz.prog etalonref06_applied_s ⟨[(((x4 * x8) - (x5 * x7)) * x9), (((x7 * x2) - (x8 * x1)) * x9), (((x1 * x5) - (x2 * x4)) * x9), (((x5 * x6) - (x3 * x8)) * x9), (((x8 * x0) - (x6 * x2)) * x9), (((x2 * x3) - (x0 * x5)) * x9), (((x3 * x7) - (x4 * x6)) * x9), (((x6 * x1) - (x7 * x0)) * x9), (((x0 * x4) - (x1 * x3)) * x9), v16, x10, x11, x12, x13, x14, x15], [], []⟩ [v17, v18, v19, v20, v21, v22, v23] [] [] ∧
     R (v17) (v18) (v19) (v20) (v21) (v22) (v23)))) ∧
    (decide ((0 : Int) ≤ (((x0 * ((x4 * x8) - (x5 * x7))) + (x1 * ((x5 * x6) - (x3 * x8)))) + (x2 * ((x3 * x7) - (x4 * x6))))) = false → (∃ v16 : Int, Spec Tryz.prog etalonbase_Size_s ⟨[(((x0 * ((x4 * x8) - (x5 * x7))) + (x1 * ((x5 * x6) - (x3 * x8)))) + (x2 * ((x3 * x7) - (x4 * x6))))], [], []⟩ [v16] [] [] ∧
     (∃ v17 : Int, ∃ v18 : Int, ∃ v19 : Int, ∃ v20 : Int, ∃ v21 : Int, ∃ v22 : Int, ∃ v23 : Int, Spec Tryz.prog etalonref06_applied_s ⟨[(0 - (((x4 * x8) - (x5 * x7)) * x9)), (0 - (((x7 * x2) - (x8 * x1)) * x9)), (0 - (((x1 * x5) - (x2 * x4)) * x9)), (0 - (((x5 * x6) - (x3 * x8)) * x9)), (0 - (((x8 * x0) - (x6 * x2)) * x9)), (0 - (((x2 * x3) - (x0 * x5)) * x9)), (0 - (((x3 * x7) - (x4 * x6)) * x9)), (0 - (((x6 * x1) - (x7 * x0)) * x9)), (0 - (((x0 * x4) - (x1 * x3)) * x9)), v16, x10, x11, x12, x13, x14, x15], [], []⟩ [v17, v18, v19, v20, v21, v22, v23] [] [] ∧
     R (v17) (v18) (v19) (v20) (v21) (v22) (v23)))))))) :
    ∃ v0 : Int, ∃ v1 : Int, ∃ v2 : Int, ∃ v3 : Int, ∃ v4 : Int, ∃ v5 : Int, ∃ v6 : Int, R v0 v1 v2 v3 v4 v5 v6 ∧ Spec Tryz.prog etalonref06_Corrected_s ⟨[x0, x1, x2, x3, x4, x5, x6, x7, x8, x9, x10, x11, x12, x13, x14, x15], [], []⟩ [v0, v1, v2, v3, v4, v5, v6] [] [] :=
  Eq.mp (by kernel_rfl) (exV_of (K := fun d => app3 etalonref06_Corrected_s.out R d ∧ Spec Tryz.prog etalonref06_Corrected_s ⟨[x0, x1, x2, x3, x4, x5, x6, x7, x8, x9, x10, x11, x12, x13, x14, x15], [], []⟩ d.1 d.2.1 d.2.2) (tree_at mixed names S1_ok (S := S1 Tryz.prog) (lf := 100000) (d := 60) etalonref06_Corrected_s rco_t { ivs := [(0, (-1000), 1000), (1, (-1000), 1000), (2, (-1000), 1000), (3, (-1000), 1000), (4, (-1000), 1000), (5, (-1000), 1000), (6, (-1000), 1000), (7, (-1000), 1000), (8, (-1000), 1000), (9, 1, 1000), (10, (-10000000), 10000000), (11, (-10000000), 10000000), (12, (-10000000), 10000000), (13, (-10000000), 10000000), (14, (-10000000), 10000000), (15, (-10000000), 10000000)], aivs := [] } ⟨[x0, x1, x2, x3, x4, x5, x6, x7, x8, x9, x10, x11, x12, x13, x14, x15], [], []⟩ rfl (by kernel_rfl) (by kernel_rfl) (by kernel_rfl) ⟨(fc r0 (fc r1 (fc r2 (fc r3 (fc r4 (fc r5 (fc r6 (fc r7 (fc r8 (fc r9 (fc r10 (fc r11 (fc r12 (fc r13 (fc r14 (fc r15 fz)))))))))))))))), fz, fz, fz⟩ (R := fun d => app3 etalonref06_Corrected_s.out R d) (Eq.mp (by kernel_rfl) H)))

/-- A row of numbers times ranges: the least and the greatest sum. -/

def rL (n0 n1 n2 a0 b0 a1 b1 a2 b2 : Int) : Int := min (n0 * a0) (n0 * b0) + min (n1 * a1) (n1 * b1) + min (n2 * a2) (n2 * b2)

def rH (n0 n1 n2 a0 b0 a1 b1 a2 b2 : Int) : Int := max (n0 * a0) (n0 * b0) + max (n1 * a1) (n1 * b1) + max (n2 * a2) (n2 * b2)

/-- An enclosure divided by a number other than 0. -/

def oL (d lo hi : Int) : Int := if 0 ≤ d then lo / d else (0 - hi) / (0 - d)

def oH (d lo hi : Int) : Int := if 0 ≤ d then cdiv hi d else cdiv (0 - lo) (0 - d)

theorem cdiv_mono {a b d : Int} (hd : 0 < d) (h : a ≤ b) : cdiv a d ≤ cdiv b d := by

  have : -b / d ≤ -a / d := Int.ediv_le_ediv hd (by omega)

  unfold cdiv; omega

theorem over_p {d lo hi : Int} (hd : d ≠ 0) (hd' : -6000000000 ≤ d ∧ d ≤ 6000000000) (hl : -60000000000000000 ≤ lo ∧ lo ≤ 60000000000000000) (hh : -60000000000000000 ≤ hi ∧ hi ≤ 60000000000000000) (h : lo ≤ hi) :

    Spec Tryz.prog meter_over_s ⟨[d, lo, hi], [], []⟩ [oL d lo hi, oH d lo hi] [] [] := by

  have q1 := quotient_s (x := lo) (d := d) hl hd (by omega) (by omega)

  have q2 := quotient_s (x := hi) (d := d) hh hd (by omega) (by omega)

  obtain ⟨a, b, ⟨rfl, rfl⟩, hs⟩ := ov (x0 := d) (x1 := lo) (x2 := hi) (by omega) (by omega) (by omega) (R := fun a b => a = oL d lo hi ∧ b = oH d lo hi) ⟨_, _, q1, _, _, q2, by

    simp only [ite_min, ite_max]

    unfold qF qC oL oH

    by_cases h0 : 0 ≤ d

    · simp only [if_pos h0]

      have m1 : lo / d ≤ hi / d := Int.ediv_le_ediv (by omega) h

      have m2 := cdiv_mono (d := d) (by omega) h

      omega

    · simp only [if_neg h0]

      have m1 : (0 - hi) / (0 - d) ≤ (0 - lo) / (0 - d) := Int.ediv_le_ediv (by omega) (by omega)

      have m2 := cdiv_mono (a := 0 - hi) (b := 0 - lo) (d := 0 - d) (by omega) (by omega)

      omega⟩

  exact hs

theorem times_p {n a b : Int} (hn : (-2000000000) ≤ n ∧ n ≤ 2000000000) (ha : (-10000000) ≤ a ∧ a ≤ 10000000) (hb : (-10000000) ≤ b ∧ b ≤ 10000000) :

    Spec Tryz.prog meter_times_s ⟨[n, a, b], [], []⟩ [min (n * a) (n * b), max (n * a) (n * b)] [] [] := by

  obtain ⟨v, u, ⟨rfl, rfl⟩, hs⟩ := ti hn ha hb (R := fun v u => v = min (n * a) (n * b) ∧ u = max (n * a) (n * b)) (by simp only [ite_min, ite_max]; exact ⟨trivial, trivial⟩)

  exact hs

/-- What is seen of sums by rows of numbers: each row's ends. -/

def sL0 (x0 x1 x2 x3 x4 x5 x6 x7 x8 x9 x10 x11 x12 x13 x14 x15 : Int) : Int := oL x9 (rL x0 x1 x2 x10 x11 x12 x13 x14 x15) (rH x0 x1 x2 x10 x11 x12 x13 x14 x15)

def sH0 (x0 x1 x2 x3 x4 x5 x6 x7 x8 x9 x10 x11 x12 x13 x14 x15 : Int) : Int := oH x9 (rL x0 x1 x2 x10 x11 x12 x13 x14 x15) (rH x0 x1 x2 x10 x11 x12 x13 x14 x15)

def sL1 (x0 x1 x2 x3 x4 x5 x6 x7 x8 x9 x10 x11 x12 x13 x14 x15 : Int) : Int := oL x9 (rL x3 x4 x5 x10 x11 x12 x13 x14 x15) (rH x3 x4 x5 x10 x11 x12 x13 x14 x15)

def sH1 (x0 x1 x2 x3 x4 x5 x6 x7 x8 x9 x10 x11 x12 x13 x14 x15 : Int) : Int := oH x9 (rL x3 x4 x5 x10 x11 x12 x13 x14 x15) (rH x3 x4 x5 x10 x11 x12 x13 x14 x15)

def sL2 (x0 x1 x2 x3 x4 x5 x6 x7 x8 x9 x10 x11 x12 x13 x14 x15 : Int) : Int := oL x9 (rL x6 x7 x8 x10 x11 x12 x13 x14 x15) (rH x6 x7 x8 x10 x11 x12 x13 x14 x15)

def sH2 (x0 x1 x2 x3 x4 x5 x6 x7 x8 x9 x10 x11 x12 x13 x14 x15 : Int) : Int := oH x9 (rL x6 x7 x8 x10 x11 x12 x13 x14 x15) (rH x6 x7 x8 x10 x11 x12 x13 x14 x15)

theorem row_rng {n0 n1 n2 x10 x11 x12 x13 x14 x15 : Int} (h0 : (-2000000000) ≤ n0 ∧ n0 ≤ 2000000000) (h1 : (-2000000000) ≤ n1 ∧ n1 ≤ 2000000000) (h2 : (-2000000000) ≤ n2 ∧ n2 ≤ 2000000000) (r10 : (-10000000) ≤ x10 ∧ x10 ≤ 10000000) (r11 : (-10000000) ≤ x11 ∧ x11 ≤ 10000000) (r12 : (-10000000) ≤ x12 ∧ x12 ≤ 10000000) (r13 : (-10000000) ≤ x13 ∧ x13 ≤ 10000000) (r14 : (-10000000) ≤ x14 ∧ x14 ≤ 10000000) (r15 : (-10000000) ≤ x15 ∧ x15 ≤ 10000000) :

    ((-60000000000000000) ≤ rL n0 n1 n2 x10 x11 x12 x13 x14 x15 ∧ rL n0 n1 n2 x10 x11 x12 x13 x14 x15 ≤ 60000000000000000) ∧ ((-60000000000000000) ≤ rH n0 n1 n2 x10 x11 x12 x13 x14 x15 ∧ rH n0 n1 n2 x10 x11 x12 x13 x14 x15 ≤ 60000000000000000) ∧ rL n0 n1 n2 x10 x11 x12 x13 x14 x15 ≤ rH n0 n1 n2 x10 x11 x12 x13 x14 x15 ∧

    (((-20000000000000000) ≤ min (n0 * x10) (n0 * x11) ∧ min (n0 * x10) (n0 * x11) ≤ 20000000000000000) ∧ ((-20000000000000000) ≤ max (n0 * x10) (n0 * x11) ∧ max (n0 * x10) (n0 * x11) ≤ 20000000000000000)) ∧

    (((-20000000000000000) ≤ min (n1 * x12) (n1 * x13) ∧ min (n1 * x12) (n1 * x13) ≤ 20000000000000000) ∧ ((-20000000000000000) ≤ max (n1 * x12) (n1 * x13) ∧ max (n1 * x12) (n1 * x13) ≤ 20000000000000000)) ∧

    (((-20000000000000000) ≤ min (n2 * x14) (n2 * x15) ∧ min (n2 * x14) (n2 * x15) ≤ 20000000000000000) ∧ ((-20000000000000000) ≤ max (n2 * x14) (n2 * x15) ∧ max (n2 * x14) (n2 * x15) ≤ 20000000000000000)) := by

  have a0 := mulB h0 r10

  have a1 := mulB h0 r11

  have a2 := mulB h1 r12

  have a3 := mulB h1 r13

  have a4 := mulB h2 r14

  have a5 := mulB h2 r15

  unfold rL rH

  omega

set_option maxHeartbeats 4000000 in

theorem seen_p {x0 x1 x2 x3 x4 x5 x6 x7 x8 x9 x10 x11 x12 x13 x14 x15 : Int} (r0 : (-2000000000) ≤ x0 ∧ x0 ≤ 2000000000) (r1 : (-2000000000) ≤ x1 ∧ x1 ≤ 2000000000) (r2 : (-2000000000) ≤ x2 ∧ x2 ≤ 2000000000) (r3 : (-2000000000) ≤ x3 ∧ x3 ≤ 2000000000) (r4 : (-2000000000) ≤ x4 ∧ x4 ≤ 2000000000) (r5 : (-2000000000) ≤ x5 ∧ x5 ≤ 2000000000) (r6 : (-2000000000) ≤ x6 ∧ x6 ≤ 2000000000) (r7 : (-2000000000) ≤ x7 ∧ x7 ≤ 2000000000) (r8 : (-2000000000) ≤ x8 ∧ x8 ≤ 2000000000) (hd : x9 ≠ 0) (hd' : -6000000000 ≤ x9 ∧ x9 ≤ 6000000000) (r10 : (-10000000) ≤ x10 ∧ x10 ≤ 10000000) (r11 : (-10000000) ≤ x11 ∧ x11 ≤ 10000000) (r12 : (-10000000) ≤ x12 ∧ x12 ≤ 10000000) (r13 : (-10000000) ≤ x13 ∧ x13 ≤ 10000000) (r14 : (-10000000) ≤ x14 ∧ x14 ≤ 10000000) (r15 : (-10000000) ≤ x15 ∧ x15 ≤ 10000000) :

    Spec Tryz.prog meter_seen_s ⟨[x0, x1, x2, x3, x4, x5, x6, x7, x8, x9, x10, x11, x12, x13, x14, x15], [], []⟩ [sL0 x0 x1 x2 x3 x4 x5 x6 x7 x8 x9 x10 x11 x12 x13 x14 x15, sH0 x0 x1 x2 x3 x4 x5 x6 x7 x8 x9 x10 x11 x12 x13 x14 x15, sL1 x0 x1 x2 x3 x4 x5 x6 x7 x8 x9 x10 x11 x12 x13 x14 x15, sH1 x0 x1 x2 x3 x4 x5 x6 x7 x8 x9 x10 x11 x12 x13 x14 x15, sL2 x0 x1 x2 x3 x4 x5 x6 x7 x8 x9 x10 x11 x12 x13 x14 x15, sH2 x0 x1 x2 x3 x4 x5 x6 x7 x8 x9 x10 x11 x12 x13 x14 x15] [] [] := by

  obtain ⟨p1, p2, p3, p4, p5, p6⟩ := row_rng r0 r1 r2 r10 r11 r12 r13 r14 r15

  obtain ⟨q1, q2, q3, q4, q5, q6⟩ := row_rng r3 r4 r5 r10 r11 r12 r13 r14 r15

  obtain ⟨s1, s2, s3, s4, s5, s6⟩ := row_rng r6 r7 r8 r10 r11 r12 r13 r14 r15

  obtain ⟨v0, v1, v2, v3, v4, v5, ⟨rfl, rfl, rfl, rfl, rfl, rfl⟩, hs⟩ := sn (x9 := x9) r0 r1 r2 r3 r4 r5 r6 r7 r8 (by omega) r10 r11 r12 r13 r14 r15

    (R := fun a b c d e f => a = sL0 x0 x1 x2 x3 x4 x5 x6 x7 x8 x9 x10 x11 x12 x13 x14 x15 ∧ b = sH0 x0 x1 x2 x3 x4 x5 x6 x7 x8 x9 x10 x11 x12 x13 x14 x15 ∧ c = sL1 x0 x1 x2 x3 x4 x5 x6 x7 x8 x9 x10 x11 x12 x13 x14 x15 ∧ d = sH1 x0 x1 x2 x3 x4 x5 x6 x7 x8 x9 x10 x11 x12 x13 x14 x15 ∧ e = sL2 x0 x1 x2 x3 x4 x5 x6 x7 x8 x9 x10 x11 x12 x13 x14 x15 ∧ f = sH2 x0 x1 x2 x3 x4 x5 x6 x7 x8 x9 x10 x11 x12 x13 x14 x15)

    ⟨_, _, times_p r0 r10 r11, p4.1, p4.2, _, _, times_p r1 r12 r13, p5.1, p5.2, _, _, times_p r2 r14 r15, p6.1, p6.2, _, _, over_p hd hd' p1 p2 p3,

     _, _, times_p r3 r10 r11, q4.1, q4.2, _, _, times_p r4 r12 r13, q5.1, q5.2, _, _, times_p r5 r14 r15, q6.1, q6.2, _, _, over_p hd hd' q1 q2 q3,

     _, _, times_p r6 r10 r11, s4.1, s4.2, _, _, times_p r7 r12 r13, s5.1, s5.2, _, _, times_p r8 r14 r15, s6.1, s6.2, _, _, over_p hd hd' s1 s2 s3, rfl, rfl, rfl, rfl, rfl, rfl⟩

  exact hs

/-- Sums as a result. -/

def lgE (a b c d e f : Int) : Int := if smE a b c d e f = 0 then 0 else 8

def lgV (a b c d e f v : Int) : Int := if smE a b c d e f = 0 then v else 0

def lgR (a b c d e f v0 v1 v2 v3 v4 v5 v6 : Int) : Prop := v0 = lgV a b c d e f a ∧ v1 = lgV a b c d e f b ∧ v2 = lgV a b c d e f c ∧ v3 = lgV a b c d e f d ∧ v4 = lgV a b c d e f e ∧ v5 = lgV a b c d e f f ∧ v6 = lgE a b c d e f

theorem lgR_ok {a b c d e f : Int} (h : smE a b c d e f = 0) : lgR a b c d e f a b c d e f 0 := by

  unfold lgR lgV lgE; simp only [if_pos h, and_self]

theorem lgR_no {a b c d e f : Int} (h : smE a b c d e f ≠ 0) : lgR a b c d e f 0 0 0 0 0 0 8 := by

  unfold lgR lgV lgE; simp only [if_neg h, and_self]

theorem resulting_p {x0 x1 x2 x3 x4 x5 : Int} (r0 : I64 x0) (r1 : I64 x1) (r2 : I64 x2) (r3 : I64 x3) (r4 : I64 x4) (r5 : I64 x5) : Spec Tryz.prog meter_resultingSums_s ⟨[x0, x1, x2, x3, x4, x5], [], []⟩ [lgV x0 x1 x2 x3 x4 x5 x0, lgV x0 x1 x2 x3 x4 x5 x1, lgV x0 x1 x2 x3 x4 x5 x2, lgV x0 x1 x2 x3 x4 x5 x3, lgV x0 x1 x2 x3 x4 x5 x4, lgV x0 x1 x2 x3 x4 x5 x5, lgE x0 x1 x2 x3 x4 x5] [] [] := by

  obtain ⟨v0, v1, v2, v3, v4, v5, v6, ⟨rfl, rfl, rfl, rfl, rfl, rfl, rfl⟩, hs⟩ := rs r0 r1 r2 r3 r4 r5 (R := lgR x0 x1 x2 x3 x4 x5) ⟨_, checkSums_p r0 r1 r2 r3 r4 r5, fun h => lgR_ok (by simpa using h), fun h => lgR_no (by simpa using h)⟩

  exact hs

/-- The error of a calibration. -/

def ckE (x0 x1 x2 x3 x4 x5 x6 x7 x8 x9 : Int) : Int := if (1 ≤ x9 ∧ x9 ≤ 1000) ∧ ((-1000) ≤ x0 ∧ x0 ≤ 1000) ∧ ((-1000) ≤ x1 ∧ x1 ≤ 1000) ∧ ((-1000) ≤ x2 ∧ x2 ≤ 1000) ∧ ((-1000) ≤ x3 ∧ x3 ≤ 1000) ∧ ((-1000) ≤ x4 ∧ x4 ≤ 1000) ∧ ((-1000) ≤ x5 ∧ x5 ≤ 1000) ∧ ((-1000) ≤ x6 ∧ x6 ≤ 1000) ∧ ((-1000) ≤ x7 ∧ x7 ≤ 1000) ∧ ((-1000) ≤ x8 ∧ x8 ≤ 1000) then 0 else 2

theorem ckE_ok {x0 x1 x2 x3 x4 x5 x6 x7 x8 x9 : Int} (h : ckE x0 x1 x2 x3 x4 x5 x6 x7 x8 x9 = 0) : (1 ≤ x9 ∧ x9 ≤ 1000) ∧ ((-1000) ≤ x0 ∧ x0 ≤ 1000) ∧ ((-1000) ≤ x1 ∧ x1 ≤ 1000) ∧ ((-1000) ≤ x2 ∧ x2 ≤ 1000) ∧ ((-1000) ≤ x3 ∧ x3 ≤ 1000) ∧ ((-1000) ≤ x4 ∧ x4 ≤ 1000) ∧ ((-1000) ≤ x5 ∧ x5 ≤ 1000) ∧ ((-1000) ≤ x6 ∧ x6 ≤ 1000) ∧ ((-1000) ≤ x7 ∧ x7 ≤ 1000) ∧ ((-1000) ≤ x8 ∧ x8 ≤ 1000) := by

  unfold ckE at h; split at h

  · assumption

  · cases h

theorem checkMatrix_p {x0 x1 x2 x3 x4 x5 x6 x7 x8 x9 : Int} (r0 : I64 x0) (r1 : I64 x1) (r2 : I64 x2) (r3 : I64 x3) (r4 : I64 x4) (r5 : I64 x5) (r6 : I64 x6) (r7 : I64 x7) (r8 : I64 x8) (r9 : I64 x9) : Spec Tryz.prog meter_CheckMatrix_s ⟨[x0, x1, x2, x3, x4, x5, x6, x7, x8, x9], [], []⟩ [ckE x0 x1 x2 x3 x4 x5 x6 x7 x8 x9] [] [] := by

  obtain ⟨v, rfl, hs⟩ : ∃ v : Int, v = ckE x0 x1 x2 x3 x4 x5 x6 x7 x8 x9 ∧ Spec Tryz.prog meter_CheckMatrix_s ⟨[x0, x1, x2, x3, x4, x5, x6, x7, x8, x9], [], []⟩ [v] [] [] := by

    refine ck r0 r1 r2 r3 r4 r5 r6 r7 r8 r9 (R := (· = ckE x0 x1 x2 x3 x4 x5 x6 x7 x8 x9)) ?_

    simp only [decide_eq_true_eq, decide_eq_false_iff_not, ckE]

    (repeat' (first | apply And.intro | intro _ | fail)) <;> (split <;> omega)

  exact hs

theorem checkMatrix_r {x0 x1 x2 x3 x4 x5 x6 x7 x8 x9 : Int} (r0 : I64 x0) (r1 : I64 x1) (r2 : I64 x2) (r3 : I64 x3) (r4 : I64 x4) (r5 : I64 x5) (r6 : I64 x6) (r7 : I64 x7) (r8 : I64 x8) (r9 : I64 x9) : Spec Tryz.prog etalonref06_CheckMatrix_s ⟨[x0, x1, x2, x3, x4, x5, x6, x7, x8, x9], [], []⟩ [ckE x0 x1 x2 x3 x4 x5 x6 x7 x8 x9] [] [] := by

  obtain ⟨v, rfl, hs⟩ : ∃ v : Int, v = ckE x0 x1 x2 x3 x4 x5 x6 x7 x8 x9 ∧ Spec Tryz.prog etalonref06_CheckMatrix_s ⟨[x0, x1, x2, x3, x4, x5, x6, x7, x8, x9], [], []⟩ [v] [] [] := by

    refine ckr r0 r1 r2 r3 r4 r5 r6 r7 r8 r9 (R := (· = ckE x0 x1 x2 x3 x4 x5 x6 x7 x8 x9)) ?_

    simp only [decide_eq_true_eq, decide_eq_false_iff_not, ckE]

    (repeat' (first | apply And.intro | intro _ | fail)) <;> (split <;> omega)

  exact hs

theorem o_rng {d lo hi : Int} (hd : d ≠ 0) (hl : -60000000000000000 ≤ lo ∧ lo ≤ 60000000000000000) (hh : -60000000000000000 ≤ hi ∧ hi ≤ 60000000000000000) : I64 (oL d lo hi) ∧ I64 (oH d lo hi) := by

  unfold oL oH cdiv

  split

  · have a := ediv_abs' (n := lo) (d := d) (M := 60000000000000000) (by omega) (by omega) (by omega) (by omega)

    have b := ediv_abs' (n := -hi) (d := d) (M := 60000000000000000) (by omega) (by omega) (by omega) (by omega)

    unfold I64; omega

  · have a := ediv_abs' (n := 0 - hi) (d := 0 - d) (M := 60000000000000000) (by omega) (by omega) (by omega) (by omega)

    have b := ediv_abs' (n := -(0 - lo)) (d := 0 - d) (M := 60000000000000000) (by omega) (by omega) (by omega) (by omega)

    unfold I64; omega

theorem o_le {d lo hi : Int} (hd : d ≠ 0) (h : lo ≤ hi) : oL d lo hi ≤ oH d lo hi := by

  have key : ∀ a b e : Int, 0 < e → a ≤ b → a / e ≤ cdiv b e := fun a b e he hab => by

    have h1 : a / e ≤ b / e := Int.ediv_le_ediv he hab

    have h2 := cdiv_eq b he

    split at h2 <;> omega

  unfold oL oH

  split

  · exact key _ _ _ (by omega) h

  · exact key _ _ _ (by omega) (by omega)

theorem seenR_p {x0 x1 x2 x3 x4 x5 x6 x7 x8 x9 x10 x11 x12 x13 x14 x15 : Int} (r0 : (-2000000000) ≤ x0 ∧ x0 ≤ 2000000000) (r1 : (-2000000000) ≤ x1 ∧ x1 ≤ 2000000000) (r2 : (-2000000000) ≤ x2 ∧ x2 ≤ 2000000000) (r3 : (-2000000000) ≤ x3 ∧ x3 ≤ 2000000000) (r4 : (-2000000000) ≤ x4 ∧ x4 ≤ 2000000000) (r5 : (-2000000000) ≤ x5 ∧ x5 ≤ 2000000000) (r6 : (-2000000000) ≤ x6 ∧ x6 ≤ 2000000000) (r7 : (-2000000000) ≤ x7 ∧ x7 ≤ 2000000000) (r8 : (-2000000000) ≤ x8 ∧ x8 ≤ 2000000000) (hd : x9 ≠ 0) (hd' : -6000000000 ≤ x9 ∧ x9 ≤ 6000000000) (r10 : (-10000000) ≤ x10 ∧ x10 ≤ 10000000) (r11 : (-10000000) ≤ x11 ∧ x11 ≤ 10000000) (r12 : (-10000000) ≤ x12 ∧ x12 ≤ 10000000) (r13 : (-10000000) ≤ x13 ∧ x13 ≤ 10000000) (r14 : (-10000000) ≤ x14 ∧ x14 ≤ 10000000) (r15 : (-10000000) ≤ x15 ∧ x15 ≤ 10000000) :

    Spec Tryz.prog meter_resultingSums_s ⟨[sL0 x0 x1 x2 x3 x4 x5 x6 x7 x8 x9 x10 x11 x12 x13 x14 x15, sH0 x0 x1 x2 x3 x4 x5 x6 x7 x8 x9 x10 x11 x12 x13 x14 x15, sL1 x0 x1 x2 x3 x4 x5 x6 x7 x8 x9 x10 x11 x12 x13 x14 x15, sH1 x0 x1 x2 x3 x4 x5 x6 x7 x8 x9 x10 x11 x12 x13 x14 x15, sL2 x0 x1 x2 x3 x4 x5 x6 x7 x8 x9 x10 x11 x12 x13 x14 x15, sH2 x0 x1 x2 x3 x4 x5 x6 x7 x8 x9 x10 x11 x12 x13 x14 x15], [], []⟩ [lgV (sL0 x0 x1 x2 x3 x4 x5 x6 x7 x8 x9 x10 x11 x12 x13 x14 x15) (sH0 x0 x1 x2 x3 x4 x5 x6 x7 x8 x9 x10 x11 x12 x13 x14 x15) (sL1 x0 x1 x2 x3 x4 x5 x6 x7 x8 x9 x10 x11 x12 x13 x14 x15) (sH1 x0 x1 x2 x3 x4 x5 x6 x7 x8 x9 x10 x11 x12 x13 x14 x15) (sL2 x0 x1 x2 x3 x4 x5 x6 x7 x8 x9 x10 x11 x12 x13 x14 x15) (sH2 x0 x1 x2 x3 x4 x5 x6 x7 x8 x9 x10 x11 x12 x13 x14 x15) (sL0 x0 x1 x2 x3 x4 x5 x6 x7 x8 x9 x10 x11 x12 x13 x14 x15), lgV (sL0 x0 x1 x2 x3 x4 x5 x6 x7 x8 x9 x10 x11 x12 x13 x14 x15) (sH0 x0 x1 x2 x3 x4 x5 x6 x7 x8 x9 x10 x11 x12 x13 x14 x15) (sL1 x0 x1 x2 x3 x4 x5 x6 x7 x8 x9 x10 x11 x12 x13 x14 x15) (sH1 x0 x1 x2 x3 x4 x5 x6 x7 x8 x9 x10 x11 x12 x13 x14 x15) (sL2 x0 x1 x2 x3 x4 x5 x6 x7 x8 x9 x10 x11 x12 x13 x14 x15) (sH2 x0 x1 x2 x3 x4 x5 x6 x7 x8 x9 x10 x11 x12 x13 x14 x15) (sH0 x0 x1 x2 x3 x4 x5 x6 x7 x8 x9 x10 x11 x12 x13 x14 x15), lgV (sL0 x0 x1 x2 x3 x4 x5 x6 x7 x8 x9 x10 x11 x12 x13 x14 x15) (sH0 x0 x1 x2 x3 x4 x5 x6 x7 x8 x9 x10 x11 x12 x13 x14 x15) (sL1 x0 x1 x2 x3 x4 x5 x6 x7 x8 x9 x10 x11 x12 x13 x14 x15) (sH1 x0 x1 x2 x3 x4 x5 x6 x7 x8 x9 x10 x11 x12 x13 x14 x15) (sL2 x0 x1 x2 x3 x4 x5 x6 x7 x8 x9 x10 x11 x12 x13 x14 x15) (sH2 x0 x1 x2 x3 x4 x5 x6 x7 x8 x9 x10 x11 x12 x13 x14 x15) (sL1 x0 x1 x2 x3 x4 x5 x6 x7 x8 x9 x10 x11 x12 x13 x14 x15), lgV (sL0 x0 x1 x2 x3 x4 x5 x6 x7 x8 x9 x10 x11 x12 x13 x14 x15) (sH0 x0 x1 x2 x3 x4 x5 x6 x7 x8 x9 x10 x11 x12 x13 x14 x15) (sL1 x0 x1 x2 x3 x4 x5 x6 x7 x8 x9 x10 x11 x12 x13 x14 x15) (sH1 x0 x1 x2 x3 x4 x5 x6 x7 x8 x9 x10 x11 x12 x13 x14 x15) (sL2 x0 x1 x2 x3 x4 x5 x6 x7 x8 x9 x10 x11 x12 x13 x14 x15) (sH2 x0 x1 x2 x3 x4 x5 x6 x7 x8 x9 x10 x11 x12 x13 x14 x15) (sH1 x0 x1 x2 x3 x4 x5 x6 x7 x8 x9 x10 x11 x12 x13 x14 x15), lgV (sL0 x0 x1 x2 x3 x4 x5 x6 x7 x8 x9 x10 x11 x12 x13 x14 x15) (sH0 x0 x1 x2 x3 x4 x5 x6 x7 x8 x9 x10 x11 x12 x13 x14 x15) (sL1 x0 x1 x2 x3 x4 x5 x6 x7 x8 x9 x10 x11 x12 x13 x14 x15) (sH1 x0 x1 x2 x3 x4 x5 x6 x7 x8 x9 x10 x11 x12 x13 x14 x15) (sL2 x0 x1 x2 x3 x4 x5 x6 x7 x8 x9 x10 x11 x12 x13 x14 x15) (sH2 x0 x1 x2 x3 x4 x5 x6 x7 x8 x9 x10 x11 x12 x13 x14 x15) (sL2 x0 x1 x2 x3 x4 x5 x6 x7 x8 x9 x10 x11 x12 x13 x14 x15), lgV (sL0 x0 x1 x2 x3 x4 x5 x6 x7 x8 x9 x10 x11 x12 x13 x14 x15) (sH0 x0 x1 x2 x3 x4 x5 x6 x7 x8 x9 x10 x11 x12 x13 x14 x15) (sL1 x0 x1 x2 x3 x4 x5 x6 x7 x8 x9 x10 x11 x12 x13 x14 x15) (sH1 x0 x1 x2 x3 x4 x5 x6 x7 x8 x9 x10 x11 x12 x13 x14 x15) (sL2 x0 x1 x2 x3 x4 x5 x6 x7 x8 x9 x10 x11 x12 x13 x14 x15) (sH2 x0 x1 x2 x3 x4 x5 x6 x7 x8 x9 x10 x11 x12 x13 x14 x15) (sH2 x0 x1 x2 x3 x4 x5 x6 x7 x8 x9 x10 x11 x12 x13 x14 x15), lgE (sL0 x0 x1 x2 x3 x4 x5 x6 x7 x8 x9 x10 x11 x12 x13 x14 x15) (sH0 x0 x1 x2 x3 x4 x5 x6 x7 x8 x9 x10 x11 x12 x13 x14 x15) (sL1 x0 x1 x2 x3 x4 x5 x6 x7 x8 x9 x10 x11 x12 x13 x14 x15) (sH1 x0 x1 x2 x3 x4 x5 x6 x7 x8 x9 x10 x11 x12 x13 x14 x15) (sL2 x0 x1 x2 x3 x4 x5 x6 x7 x8 x9 x10 x11 x12 x13 x14 x15) (sH2 x0 x1 x2 x3 x4 x5 x6 x7 x8 x9 x10 x11 x12 x13 x14 x15)] [] [] := by

  obtain ⟨p1, p2, p3, _⟩ := row_rng r0 r1 r2 r10 r11 r12 r13 r14 r15

  obtain ⟨q1, q2, q3, _⟩ := row_rng r3 r4 r5 r10 r11 r12 r13 r14 r15

  obtain ⟨s1, s2, s3, _⟩ := row_rng r6 r7 r8 r10 r11 r12 r13 r14 r15

  exact resulting_p (o_rng hd p1 p2).1 (o_rng hd p1 p2).2 (o_rng hd q1 q2).1 (o_rng hd q1 q2).2 (o_rng hd s1 s2).1 (o_rng hd s1 s2).2

theorem smE_in {a b c d e f : Int} (h0 : a ≤ b) (h1 : c ≤ d) (h2 : e ≤ f) (g : ((-10000000) ≤ a ∧ a ≤ 10000000) ∧ ((-10000000) ≤ b ∧ b ≤ 10000000) ∧ ((-10000000) ≤ c ∧ c ≤ 10000000) ∧ ((-10000000) ≤ d ∧ d ≤ 10000000) ∧ ((-10000000) ≤ e ∧ e ≤ 10000000) ∧ ((-10000000) ≤ f ∧ f ≤ 10000000)) : smE a b c d e f = 0 := by

  have z : ∀ x y : Int, x ≤ y → ((-10000000) ≤ x ∧ x ≤ 10000000) → ((-10000000) ≤ y ∧ y ≤ 10000000) → re (-10000000) 10000000 x y = 0 := fun x y h p q => by

    unfold re; rw [if_pos ⟨p.1, p.2, q.1, q.2⟩, if_pos h]

  unfold smE fe

  rw [z a b h0 g.1 g.2.1, if_pos rfl, z c d h1 g.2.2.1 g.2.2.2.1, if_pos rfl, z e f h2 g.2.2.2.2.1 g.2.2.2.2.2]

set_option maxHeartbeats 8000000 in

theorem applied_r {x0 x1 x2 x3 x4 x5 x6 x7 x8 x9 x10 x11 x12 x13 x14 x15 : Int} (r0 : (-2000000000) ≤ x0 ∧ x0 ≤ 2000000000) (r1 : (-2000000000) ≤ x1 ∧ x1 ≤ 2000000000) (r2 : (-2000000000) ≤ x2 ∧ x2 ≤ 2000000000) (r3 : (-2000000000) ≤ x3 ∧ x3 ≤ 2000000000) (r4 : (-2000000000) ≤ x4 ∧ x4 ≤ 2000000000) (r5 : (-2000000000) ≤ x5 ∧ x5 ≤ 2000000000) (r6 : (-2000000000) ≤ x6 ∧ x6 ≤ 2000000000) (r7 : (-2000000000) ≤ x7 ∧ x7 ≤ 2000000000) (r8 : (-2000000000) ≤ x8 ∧ x8 ≤ 2000000000) (r9 : 1 ≤ x9 ∧ x9 ≤ 6000000000) (r10 : (-10000000) ≤ x10 ∧ x10 ≤ 10000000) (r11 : (-10000000) ≤ x11 ∧ x11 ≤ 10000000) (r12 : (-10000000) ≤ x12 ∧ x12 ≤ 10000000) (r13 : (-10000000) ≤ x13 ∧ x13 ≤ 10000000) (r14 : (-10000000) ≤ x14 ∧ x14 ≤ 10000000) (r15 : (-10000000) ≤ x15 ∧ x15 ≤ 10000000) :

    Spec Tryz.prog etalonref06_applied_s ⟨[x0, x1, x2, x3, x4, x5, x6, x7, x8, x9, x10, x11, x12, x13, x14, x15], [], []⟩ [lgV (sL0 x0 x1 x2 x3 x4 x5 x6 x7 x8 x9 x10 x11 x12 x13 x14 x15) (sH0 x0 x1 x2 x3 x4 x5 x6 x7 x8 x9 x10 x11 x12 x13 x14 x15) (sL1 x0 x1 x2 x3 x4 x5 x6 x7 x8 x9 x10 x11 x12 x13 x14 x15) (sH1 x0 x1 x2 x3 x4 x5 x6 x7 x8 x9 x10 x11 x12 x13 x14 x15) (sL2 x0 x1 x2 x3 x4 x5 x6 x7 x8 x9 x10 x11 x12 x13 x14 x15) (sH2 x0 x1 x2 x3 x4 x5 x6 x7 x8 x9 x10 x11 x12 x13 x14 x15) (sL0 x0 x1 x2 x3 x4 x5 x6 x7 x8 x9 x10 x11 x12 x13 x14 x15), lgV (sL0 x0 x1 x2 x3 x4 x5 x6 x7 x8 x9 x10 x11 x12 x13 x14 x15) (sH0 x0 x1 x2 x3 x4 x5 x6 x7 x8 x9 x10 x11 x12 x13 x14 x15) (sL1 x0 x1 x2 x3 x4 x5 x6 x7 x8 x9 x10 x11 x12 x13 x14 x15) (sH1 x0 x1 x2 x3 x4 x5 x6 x7 x8 x9 x10 x11 x12 x13 x14 x15) (sL2 x0 x1 x2 x3 x4 x5 x6 x7 x8 x9 x10 x11 x12 x13 x14 x15) (sH2 x0 x1 x2 x3 x4 x5 x6 x7 x8 x9 x10 x11 x12 x13 x14 x15) (sH0 x0 x1 x2 x3 x4 x5 x6 x7 x8 x9 x10 x11 x12 x13 x14 x15), lgV (sL0 x0 x1 x2 x3 x4 x5 x6 x7 x8 x9 x10 x11 x12 x13 x14 x15) (sH0 x0 x1 x2 x3 x4 x5 x6 x7 x8 x9 x10 x11 x12 x13 x14 x15) (sL1 x0 x1 x2 x3 x4 x5 x6 x7 x8 x9 x10 x11 x12 x13 x14 x15) (sH1 x0 x1 x2 x3 x4 x5 x6 x7 x8 x9 x10 x11 x12 x13 x14 x15) (sL2 x0 x1 x2 x3 x4 x5 x6 x7 x8 x9 x10 x11 x12 x13 x14 x15) (sH2 x0 x1 x2 x3 x4 x5 x6 x7 x8 x9 x10 x11 x12 x13 x14 x15) (sL1 x0 x1 x2 x3 x4 x5 x6 x7 x8 x9 x10 x11 x12 x13 x14 x15), lgV (sL0 x0 x1 x2 x3 x4 x5 x6 x7 x8 x9 x10 x11 x12 x13 x14 x15) (sH0 x0 x1 x2 x3 x4 x5 x6 x7 x8 x9 x10 x11 x12 x13 x14 x15) (sL1 x0 x1 x2 x3 x4 x5 x6 x7 x8 x9 x10 x11 x12 x13 x14 x15) (sH1 x0 x1 x2 x3 x4 x5 x6 x7 x8 x9 x10 x11 x12 x13 x14 x15) (sL2 x0 x1 x2 x3 x4 x5 x6 x7 x8 x9 x10 x11 x12 x13 x14 x15) (sH2 x0 x1 x2 x3 x4 x5 x6 x7 x8 x9 x10 x11 x12 x13 x14 x15) (sH1 x0 x1 x2 x3 x4 x5 x6 x7 x8 x9 x10 x11 x12 x13 x14 x15), lgV (sL0 x0 x1 x2 x3 x4 x5 x6 x7 x8 x9 x10 x11 x12 x13 x14 x15) (sH0 x0 x1 x2 x3 x4 x5 x6 x7 x8 x9 x10 x11 x12 x13 x14 x15) (sL1 x0 x1 x2 x3 x4 x5 x6 x7 x8 x9 x10 x11 x12 x13 x14 x15) (sH1 x0 x1 x2 x3 x4 x5 x6 x7 x8 x9 x10 x11 x12 x13 x14 x15) (sL2 x0 x1 x2 x3 x4 x5 x6 x7 x8 x9 x10 x11 x12 x13 x14 x15) (sH2 x0 x1 x2 x3 x4 x5 x6 x7 x8 x9 x10 x11 x12 x13 x14 x15) (sL2 x0 x1 x2 x3 x4 x5 x6 x7 x8 x9 x10 x11 x12 x13 x14 x15), lgV (sL0 x0 x1 x2 x3 x4 x5 x6 x7 x8 x9 x10 x11 x12 x13 x14 x15) (sH0 x0 x1 x2 x3 x4 x5 x6 x7 x8 x9 x10 x11 x12 x13 x14 x15) (sL1 x0 x1 x2 x3 x4 x5 x6 x7 x8 x9 x10 x11 x12 x13 x14 x15) (sH1 x0 x1 x2 x3 x4 x5 x6 x7 x8 x9 x10 x11 x12 x13 x14 x15) (sL2 x0 x1 x2 x3 x4 x5 x6 x7 x8 x9 x10 x11 x12 x13 x14 x15) (sH2 x0 x1 x2 x3 x4 x5 x6 x7 x8 x9 x10 x11 x12 x13 x14 x15) (sH2 x0 x1 x2 x3 x4 x5 x6 x7 x8 x9 x10 x11 x12 x13 x14 x15), lgE (sL0 x0 x1 x2 x3 x4 x5 x6 x7 x8 x9 x10 x11 x12 x13 x14 x15) (sH0 x0 x1 x2 x3 x4 x5 x6 x7 x8 x9 x10 x11 x12 x13 x14 x15) (sL1 x0 x1 x2 x3 x4 x5 x6 x7 x8 x9 x10 x11 x12 x13 x14 x15) (sH1 x0 x1 x2 x3 x4 x5 x6 x7 x8 x9 x10 x11 x12 x13 x14 x15) (sL2 x0 x1 x2 x3 x4 x5 x6 x7 x8 x9 x10 x11 x12 x13 x14 x15) (sH2 x0 x1 x2 x3 x4 x5 x6 x7 x8 x9 x10 x11 x12 x13 x14 x15)] [] [] := by

  obtain ⟨p1, p2, p3, _⟩ := row_rng r0 r1 r2 r10 r11 r12 r13 r14 r15

  obtain ⟨q1, q2, q3, _⟩ := row_rng r3 r4 r5 r10 r11 r12 r13 r14 r15

  obtain ⟨s1, s2, s3, _⟩ := row_rng r6 r7 r8 r10 r11 r12 r13 r14 r15

  have hd : x9 ≠ 0 := by omega

  have l0 := o_le (d := x9) hd p3

  have l1 := o_le (d := x9) hd q3

  have l2 := o_le (d := x9) hd s3

  have fl : ∀ n : Int, -60000000000000000 ≤ n ∧ n ≤ 60000000000000000 → Spec Tryz.prog etalonbase_Floor_s ⟨[n, x9], [], []⟩ [n / x9] [] [] := fun n hn => floor_s (by omega) (by omega)

  have ce : ∀ n : Int, -60000000000000000 ≤ n ∧ n ≤ 60000000000000000 → Spec Tryz.prog etalonbase_Ceil_s ⟨[n, x9], [], []⟩ [cdiv n x9] [] [] := fun n hn => ceil_s (by omega) (by omega)

  have g0 := fl _ p1

  have g1 := ce _ p2

  have g2 := fl _ q1

  have g3 := ce _ q2

  have g4 := fl _ s1

  have g5 := ce _ s2

  have e : ∀ lo hi : Int, oL x9 lo hi = lo / x9 ∧ oH x9 lo hi = cdiv hi x9 := fun lo hi => by unfold oL oH; rw [if_pos (by omega), if_pos (by omega)]; exact ⟨rfl, rfl⟩

  obtain ⟨v0, v1, v2, v3, v4, v5, v6, ⟨rfl, rfl, rfl, rfl, rfl, rfl, rfl⟩, hs⟩ := ap r0 r1 r2 r3 r4 r5 r6 r7 r8 r9 r10 r11 r12 r13 r14 r15 (R := lgR (sL0 x0 x1 x2 x3 x4 x5 x6 x7 x8 x9 x10 x11 x12 x13 x14 x15) (sH0 x0 x1 x2 x3 x4 x5 x6 x7 x8 x9 x10 x11 x12 x13 x14 x15) (sL1 x0 x1 x2 x3 x4 x5 x6 x7 x8 x9 x10 x11 x12 x13 x14 x15) (sH1 x0 x1 x2 x3 x4 x5 x6 x7 x8 x9 x10 x11 x12 x13 x14 x15) (sL2 x0 x1 x2 x3 x4 x5 x6 x7 x8 x9 x10 x11 x12 x13 x14 x15) (sH2 x0 x1 x2 x3 x4 x5 x6 x7 x8 x9 x10 x11 x12 x13 x14 x15)) (by

    simp only [ite_min, ite_max, decide_eq_true_eq, decide_eq_false_iff_not]

    have no : ¬ (((-10000000) ≤ sL0 x0 x1 x2 x3 x4 x5 x6 x7 x8 x9 x10 x11 x12 x13 x14 x15 ∧ sL0 x0 x1 x2 x3 x4 x5 x6 x7 x8 x9 x10 x11 x12 x13 x14 x15 ≤ 10000000) ∧ ((-10000000) ≤ sH0 x0 x1 x2 x3 x4 x5 x6 x7 x8 x9 x10 x11 x12 x13 x14 x15 ∧ sH0 x0 x1 x2 x3 x4 x5 x6 x7 x8 x9 x10 x11 x12 x13 x14 x15 ≤ 10000000) ∧ ((-10000000) ≤ sL1 x0 x1 x2 x3 x4 x5 x6 x7 x8 x9 x10 x11 x12 x13 x14 x15 ∧ sL1 x0 x1 x2 x3 x4 x5 x6 x7 x8 x9 x10 x11 x12 x13 x14 x15 ≤ 10000000) ∧ ((-10000000) ≤ sH1 x0 x1 x2 x3 x4 x5 x6 x7 x8 x9 x10 x11 x12 x13 x14 x15 ∧ sH1 x0 x1 x2 x3 x4 x5 x6 x7 x8 x9 x10 x11 x12 x13 x14 x15 ≤ 10000000) ∧ ((-10000000) ≤ sL2 x0 x1 x2 x3 x4 x5 x6 x7 x8 x9 x10 x11 x12 x13 x14 x15 ∧ sL2 x0 x1 x2 x3 x4 x5 x6 x7 x8 x9 x10 x11 x12 x13 x14 x15 ≤ 10000000) ∧ ((-10000000) ≤ sH2 x0 x1 x2 x3 x4 x5 x6 x7 x8 x9 x10 x11 x12 x13 x14 x15 ∧ sH2 x0 x1 x2 x3 x4 x5 x6 x7 x8 x9 x10 x11 x12 x13 x14 x15 ≤ 10000000)) → lgR (sL0 x0 x1 x2 x3 x4 x5 x6 x7 x8 x9 x10 x11 x12 x13 x14 x15) (sH0 x0 x1 x2 x3 x4 x5 x6 x7 x8 x9 x10 x11 x12 x13 x14 x15) (sL1 x0 x1 x2 x3 x4 x5 x6 x7 x8 x9 x10 x11 x12 x13 x14 x15) (sH1 x0 x1 x2 x3 x4 x5 x6 x7 x8 x9 x10 x11 x12 x13 x14 x15) (sL2 x0 x1 x2 x3 x4 x5 x6 x7 x8 x9 x10 x11 x12 x13 x14 x15) (sH2 x0 x1 x2 x3 x4 x5 x6 x7 x8 x9 x10 x11 x12 x13 x14 x15) 0 0 0 0 0 0 8 := fun h => lgR_no fun g => h (by

      obtain ⟨⟨a1, a2, _⟩, ⟨b1, b2, _⟩, ⟨c1, c2, _⟩⟩ := smE_ok g

      exact ⟨a1, a2, b1, b2, c1, c2⟩)

    have yes : (((-10000000) ≤ sL0 x0 x1 x2 x3 x4 x5 x6 x7 x8 x9 x10 x11 x12 x13 x14 x15 ∧ sL0 x0 x1 x2 x3 x4 x5 x6 x7 x8 x9 x10 x11 x12 x13 x14 x15 ≤ 10000000) ∧ ((-10000000) ≤ sH0 x0 x1 x2 x3 x4 x5 x6 x7 x8 x9 x10 x11 x12 x13 x14 x15 ∧ sH0 x0 x1 x2 x3 x4 x5 x6 x7 x8 x9 x10 x11 x12 x13 x14 x15 ≤ 10000000) ∧ ((-10000000) ≤ sL1 x0 x1 x2 x3 x4 x5 x6 x7 x8 x9 x10 x11 x12 x13 x14 x15 ∧ sL1 x0 x1 x2 x3 x4 x5 x6 x7 x8 x9 x10 x11 x12 x13 x14 x15 ≤ 10000000) ∧ ((-10000000) ≤ sH1 x0 x1 x2 x3 x4 x5 x6 x7 x8 x9 x10 x11 x12 x13 x14 x15 ∧ sH1 x0 x1 x2 x3 x4 x5 x6 x7 x8 x9 x10 x11 x12 x13 x14 x15 ≤ 10000000) ∧ ((-10000000) ≤ sL2 x0 x1 x2 x3 x4 x5 x6 x7 x8 x9 x10 x11 x12 x13 x14 x15 ∧ sL2 x0 x1 x2 x3 x4 x5 x6 x7 x8 x9 x10 x11 x12 x13 x14 x15 ≤ 10000000) ∧ ((-10000000) ≤ sH2 x0 x1 x2 x3 x4 x5 x6 x7 x8 x9 x10 x11 x12 x13 x14 x15 ∧ sH2 x0 x1 x2 x3 x4 x5 x6 x7 x8 x9 x10 x11 x12 x13 x14 x15 ≤ 10000000)) → lgR (sL0 x0 x1 x2 x3 x4 x5 x6 x7 x8 x9 x10 x11 x12 x13 x14 x15) (sH0 x0 x1 x2 x3 x4 x5 x6 x7 x8 x9 x10 x11 x12 x13 x14 x15) (sL1 x0 x1 x2 x3 x4 x5 x6 x7 x8 x9 x10 x11 x12 x13 x14 x15) (sH1 x0 x1 x2 x3 x4 x5 x6 x7 x8 x9 x10 x11 x12 x13 x14 x15) (sL2 x0 x1 x2 x3 x4 x5 x6 x7 x8 x9 x10 x11 x12 x13 x14 x15) (sH2 x0 x1 x2 x3 x4 x5 x6 x7 x8 x9 x10 x11 x12 x13 x14 x15) (sL0 x0 x1 x2 x3 x4 x5 x6 x7 x8 x9 x10 x11 x12 x13 x14 x15) (sH0 x0 x1 x2 x3 x4 x5 x6 x7 x8 x9 x10 x11 x12 x13 x14 x15) (sL1 x0 x1 x2 x3 x4 x5 x6 x7 x8 x9 x10 x11 x12 x13 x14 x15) (sH1 x0 x1 x2 x3 x4 x5 x6 x7 x8 x9 x10 x11 x12 x13 x14 x15) (sL2 x0 x1 x2 x3 x4 x5 x6 x7 x8 x9 x10 x11 x12 x13 x14 x15) (sH2 x0 x1 x2 x3 x4 x5 x6 x7 x8 x9 x10 x11 x12 x13 x14 x15) 0 := fun h => lgR_ok (smE_in l0 l1 l2 h)

    have e0 : sL0 x0 x1 x2 x3 x4 x5 x6 x7 x8 x9 x10 x11 x12 x13 x14 x15 = rL x0 x1 x2 x10 x11 x12 x13 x14 x15 / x9 := (e _ _).1

    have e1 : sH0 x0 x1 x2 x3 x4 x5 x6 x7 x8 x9 x10 x11 x12 x13 x14 x15 = cdiv (rH x0 x1 x2 x10 x11 x12 x13 x14 x15) x9 := (e _ _).2

    have e2 : sL1 x0 x1 x2 x3 x4 x5 x6 x7 x8 x9 x10 x11 x12 x13 x14 x15 = rL x3 x4 x5 x10 x11 x12 x13 x14 x15 / x9 := (e _ _).1

    have e3 : sH1 x0 x1 x2 x3 x4 x5 x6 x7 x8 x9 x10 x11 x12 x13 x14 x15 = cdiv (rH x3 x4 x5 x10 x11 x12 x13 x14 x15) x9 := (e _ _).2

    have e4 : sL2 x0 x1 x2 x3 x4 x5 x6 x7 x8 x9 x10 x11 x12 x13 x14 x15 = rL x6 x7 x8 x10 x11 x12 x13 x14 x15 / x9 := (e _ _).1

    have e5 : sH2 x0 x1 x2 x3 x4 x5 x6 x7 x8 x9 x10 x11 x12 x13 x14 x15 = cdiv (rH x6 x7 x8 x10 x11 x12 x13 x14 x15) x9 := (e _ _).2

    rw [← e0] at g0

    rw [← e1] at g1

    rw [← e2] at g2

    rw [← e3] at g3

    rw [← e4] at g4

    rw [← e5] at g5

    clear e e0 e1 e2 e3 e4 e5 fl ce l0 l1 l2 p1 p2 p3 q1 q2 q3 s1 s2 s3

    refine ⟨_, g0, _, g1, ?_⟩

    generalize sL0 x0 x1 x2 x3 x4 x5 x6 x7 x8 x9 x10 x11 x12 x13 x14 x15 = t0 at *

    generalize sH0 x0 x1 x2 x3 x4 x5 x6 x7 x8 x9 x10 x11 x12 x13 x14 x15 = t1 at *

    refine ⟨fun h0 => ⟨fun h1 => ⟨fun h2 => ⟨fun h3 => ⟨_, g2, _, g3, ?_⟩, fun _ => no (by omega)⟩, fun _ => no (by omega)⟩, fun _ => no (by omega)⟩, fun _ => no (by omega)⟩

    generalize sL1 x0 x1 x2 x3 x4 x5 x6 x7 x8 x9 x10 x11 x12 x13 x14 x15 = t2 at *

    generalize sH1 x0 x1 x2 x3 x4 x5 x6 x7 x8 x9 x10 x11 x12 x13 x14 x15 = t3 at *

    refine ⟨fun h4 => ⟨fun h5 => ⟨fun h6 => ⟨fun h7 => ⟨_, g4, _, g5, ?_⟩, fun _ => no (by omega)⟩, fun _ => no (by omega)⟩, fun _ => no (by omega)⟩, fun _ => no (by omega)⟩

    generalize sL2 x0 x1 x2 x3 x4 x5 x6 x7 x8 x9 x10 x11 x12 x13 x14 x15 = t4 at *

    generalize sH2 x0 x1 x2 x3 x4 x5 x6 x7 x8 x9 x10 x11 x12 x13 x14 x15 = t5 at *

    exact ⟨fun h8 => ⟨fun h9 => ⟨fun h10 => ⟨fun h11 => yes (by omega), fun _ => no (by omega)⟩, fun _ => no (by omega)⟩, fun _ => no (by omega)⟩, fun _ => no (by omega)⟩)

  exact hs

end Go.Proofs.YtpjcjdhidfnbbaaGreat.Ev
