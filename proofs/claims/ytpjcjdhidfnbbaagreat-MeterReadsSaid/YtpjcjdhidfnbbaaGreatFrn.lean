/- Readings: cosines and sines, program and reference. -/
import Derived.Test.YtpjcjdhidfnbbaaGreatFrat
import Derived.Test.YtpjcjdhidfnbbaaGreatFct
import Derived.Test.YtpjcjdhidfnbbaaGreatFcrd
namespace Go.Proofs.YtpjcjdhidfnbbaaGreat.Ev
set_option linter.unusedSimpArgs false
open Go Go.RowKit
set_option linter.unusedVariables false
set_option maxRecDepth 100000
def meter_checkSetting_s : Sig := ⟨57, ⟨4, 0, 0⟩, ⟨1, 0, 0⟩, [(.strn (.var 0)), (.int .i64 (.var 1)), (.agg [(.int .i64 (.var 2)), (.int .i64 (.var 3))])], [], (.int .i64 (.var 4)), []⟩
def etalonref06_settingErr_s : Sig := ⟨63, ⟨4, 0, 0⟩, ⟨1, 0, 0⟩, [(.strn (.var 0)), (.int .i64 (.var 1)), (.agg [(.int .i64 (.var 2)), (.int .i64 (.var 3))])], [], (.int .i64 (.var 4)), []⟩
def meter_cosine_s : Sig := ⟨60, ⟨5, 0, 0⟩, ⟨2, 0, 0⟩, [(.agg [(.int .i64 (.var 0)), (.int .i64 (.var 1)), (.int .i64 (.var 2))]), (.agg [(.int .i64 (.var 3)), (.int .i64 (.var 4))])], [], (.agg [(.int .i64 (.var 5)), (.int .i64 (.var 6))]), []⟩
def meter_sine_s : Sig := ⟨62, ⟨7, 0, 0⟩, ⟨2, 0, 0⟩, [(.agg [(.int .i64 (.var 0)), (.int .i64 (.var 1)), (.int .i64 (.var 2))]), (.agg [(.int .i64 (.var 3)), (.int .i64 (.var 4))]), (.agg [(.int .i64 (.var 5)), (.int .i64 (.var 6))])], [], (.agg [(.int .i64 (.var 7)), (.int .i64 (.var 8))]), []⟩
def etalonref06_numberOf_s : Sig := ⟨66, ⟨5, 0, 0⟩, ⟨2, 0, 0⟩, [(.agg [(.int .i64 (.var 0)), (.int .i64 (.var 1))]), (.agg [(.int .i64 (.var 2)), (.int .i64 (.var 3)), (.int .i64 (.var 4))])], [], (.agg [(.int .i64 (.var 5)), (.int .i64 (.var 6))]), []⟩
def etalonref06_other_s : Sig := ⟨67, ⟨7, 0, 0⟩, ⟨3, 0, 0⟩, [(.agg [(.int .i64 (.var 0)), (.int .i64 (.var 1))]), (.agg [(.int .i64 (.var 2)), (.int .i64 (.var 3))]), (.agg [(.int .i64 (.var 4)), (.int .i64 (.var 5)), (.int .i64 (.var 6))])], [], (.tuple [(.agg [(.int .i64 (.var 7)), (.int .i64 (.var 8))]), (.int .i64 (.var 9))]), []⟩

def cst_t : Tr :=
  (.call text_IsName_s ⟨[(.var 0)], [], []⟩ ⟨[(.var 0)], [(.var 0)], []⟩ ⟨93, [(.strn (.var 0))], [], [none], (.bool (.var 0)), []⟩
  (.ite (.var 0)
  (.ite (.icmp .leq (.lit 1000) (.var 1))
   (.ite (.icmp .leq (.var 1) (.lit 200000))
    (.ite (.icmp .leq (.lit 5000) (.var 2))
     (.ite (.icmp .leq (.var 2) (.lit 80000))
      (.ite (.icmp .leq (.lit 0) (.var 3))
       (.ite (.icmp .leq (.var 3) (.lit 9999))
        (.ret ⟨[(.lit 0)], [], []⟩ [])
        (.ret ⟨[(.lit 2)], [], []⟩ []))
       (.ret ⟨[(.lit 2)], [], []⟩ []))
      (.ret ⟨[(.lit 2)], [], []⟩ []))
     (.ret ⟨[(.lit 2)], [], []⟩ []))
    (.ret ⟨[(.lit 2)], [], []⟩ []))
   (.ret ⟨[(.lit 2)], [], []⟩ []))
  (.ret ⟨[(.lit 3)], [], []⟩ [])))
theorem cst {x0 x1 x2 x3 : Int} (r1 : (-9223372036854775808) ≤ x1 ∧ x1 ≤ 9223372036854775807) (r2 : (-9223372036854775808) ≤ x2 ∧ x2 ≤ 9223372036854775807) (r3 : (-9223372036854775808) ≤ x3 ∧ x3 ≤ 9223372036854775807) {R : Int → Prop}
  (H : (∃ u0 : Bool, Spec Tryz.prog text_IsName_s ⟨[x0], [], []⟩ [] [u0] [] ∧
   ((u0 = true → ((decide ((1000 : Int) ≤ x1) = true → ((decide ((x1 : Int) ≤ 200000) = true → ((decide ((5000 : Int) ≤ x2) = true → ((decide ((x2 : Int) ≤ 80000) = true → ((decide ((0 : Int) ≤ x3) = true → ((decide ((x3 : Int) ≤ 9999) = true → R (0)) ∧
         (decide ((x3 : Int) ≤ 9999) = false → R (2)))) ∧
        (decide ((0 : Int) ≤ x3) = false → R (2)))) ∧
       (decide ((x2 : Int) ≤ 80000) = false → R (2)))) ∧
      (decide ((5000 : Int) ≤ x2) = false → R (2)))) ∧
     (decide ((x1 : Int) ≤ 200000) = false → R (2)))) ∧
    (decide ((1000 : Int) ≤ x1) = false → R (2)))) ∧
   (u0 = false → R (3))))) :
    ∃ v0 : Int, R v0 ∧ Spec Tryz.prog meter_checkSetting_s ⟨[x0, x1, x2, x3], [], []⟩ [v0] [] [] :=
  Eq.mp (by kernel_rfl) (exV_of (K := fun d => app3 meter_checkSetting_s.out R d ∧ Spec Tryz.prog meter_checkSetting_s ⟨[x0, x1, x2, x3], [], []⟩ d.1 d.2.1 d.2.2) (tree_at mixed names S1_ok (S := S1 Tryz.prog) (lf := 100000) (d := 60) meter_checkSetting_s cst_t { ivs := [(1, (-9223372036854775808), 9223372036854775807), (2, (-9223372036854775808), 9223372036854775807), (3, (-9223372036854775808), 9223372036854775807)], aivs := [] } ⟨[x0, x1, x2, x3], [], []⟩ rfl (by kernel_rfl) (by kernel_rfl) (by kernel_rfl) ⟨(fc r1 (fc r2 (fc r3 fz))), fz, fz, fz⟩ (R := fun d => app3 meter_checkSetting_s.out R d) (Eq.mp (by kernel_rfl) H)))

def rst_t : Tr :=
  (.call etalonbase_IsName_s ⟨[(.var 0)], [], []⟩ ⟨[(.var 0)], [(.var 0)], []⟩ ⟨100, [(.strn (.var 0))], [], [none], (.bool (.var 0)), []⟩
  (.ite (.var 0)
  (.ite (.icmp .leq (.lit 1000) (.var 1))
   (.ite (.icmp .leq (.var 1) (.lit 200000))
    (.ite (.icmp .leq (.lit 5000) (.var 2))
     (.ite (.icmp .leq (.var 2) (.lit 80000))
      (.ite (.icmp .leq (.lit 0) (.var 3))
       (.ite (.icmp .leq (.var 3) (.lit 9999))
        (.ret ⟨[(.lit 0)], [], []⟩ [])
        (.ret ⟨[(.lit 2)], [], []⟩ []))
       (.ret ⟨[(.lit 2)], [], []⟩ []))
      (.ret ⟨[(.lit 2)], [], []⟩ []))
     (.ret ⟨[(.lit 2)], [], []⟩ []))
    (.ret ⟨[(.lit 2)], [], []⟩ []))
   (.ret ⟨[(.lit 2)], [], []⟩ []))
  (.ret ⟨[(.lit 3)], [], []⟩ [])))
theorem rst {x0 x1 x2 x3 : Int} (r1 : (-9223372036854775808) ≤ x1 ∧ x1 ≤ 9223372036854775807) (r2 : (-9223372036854775808) ≤ x2 ∧ x2 ≤ 9223372036854775807) (r3 : (-9223372036854775808) ≤ x3 ∧ x3 ≤ 9223372036854775807) {R : Int → Prop}
  (H : (∃ u0 : Bool, Spec Tryz.prog etalonbase_IsName_s ⟨[x0], [], []⟩ [] [u0] [] ∧
   ((u0 = true → ((decide ((1000 : Int) ≤ x1) = true → ((decide ((x1 : Int) ≤ 200000) = true → ((decide ((5000 : Int) ≤ x2) = true → ((decide ((x2 : Int) ≤ 80000) = true → ((decide ((0 : Int) ≤ x3) = true → ((decide ((x3 : Int) ≤ 9999) = true → R (0)) ∧
         (decide ((x3 : Int) ≤ 9999) = false → R (2)))) ∧
        (decide ((0 : Int) ≤ x3) = false → R (2)))) ∧
       (decide ((x2 : Int) ≤ 80000) = false → R (2)))) ∧
      (decide ((5000 : Int) ≤ x2) = false → R (2)))) ∧
     (decide ((x1 : Int) ≤ 200000) = false → R (2)))) ∧
    (decide ((1000 : Int) ≤ x1) = false → R (2)))) ∧
   (u0 = false → R (3))))) :
    ∃ v0 : Int, R v0 ∧ Spec Tryz.prog etalonref06_settingErr_s ⟨[x0, x1, x2, x3], [], []⟩ [v0] [] [] :=
  Eq.mp (by kernel_rfl) (exV_of (K := fun d => app3 etalonref06_settingErr_s.out R d ∧ Spec Tryz.prog etalonref06_settingErr_s ⟨[x0, x1, x2, x3], [], []⟩ d.1 d.2.1 d.2.2) (tree_at mixed names S1_ok (S := S1 Tryz.prog) (lf := 100000) (d := 60) etalonref06_settingErr_s rst_t { ivs := [(1, (-9223372036854775808), 9223372036854775807), (2, (-9223372036854775808), 9223372036854775807), (3, (-9223372036854775808), 9223372036854775807)], aivs := [] } ⟨[x0, x1, x2, x3], [], []⟩ rfl (by kernel_rfl) (by kernel_rfl) (by kernel_rfl) ⟨(fc r1 (fc r2 (fc r3 fz))), fz, fz, fz⟩ (R := fun d => app3 etalonref06_settingErr_s.out R d) (Eq.mp (by kernel_rfl) H)))

def cow_t : Tr :=
  (.call span_Quotient_s ⟨[(.bin .mulI (.bin .subI (.bin .mulI (.var 0) (.lit 1048576)) (.bin .mulI (.var 4) (.var 2))) (.lit 1048576)), (.bin .subI (.bin .mulI (.var 2) (.lit 1048576)) (.bin .mulI (.var 4) (.var 0)))], [], []⟩ ⟨[(.bin .mulI (.bin .subI (.bin .mulI (.var 0) (.lit 1048576)) (.bin .mulI (.var 4) (.var 2))) (.lit 1048576)), (.bin .subI (.bin .mulI (.var 2) (.lit 1048576)) (.bin .mulI (.var 4) (.var 0))), (.var 5), (.var 6)], [], []⟩ ⟨95, [(.int .i64 (.bin .mulI (.bin .subI (.bin .mulI (.var 0) (.lit 1048576)) (.bin .mulI (.var 4) (.var 2))) (.lit 1048576))), (.int .i64 (.bin .subI (.bin .mulI (.var 2) (.lit 1048576)) (.bin .mulI (.var 4) (.var 0))))], [], [none, none, none, none], (.agg [(.int .i64 (.var 5)), (.int .i64 (.var 6))]), []⟩
  (.call span_Quotient_s ⟨[(.bin .mulI (.bin .subI (.bin .mulI (.var 0) (.lit 1048576)) (.bin .mulI (.var 3) (.var 2))) (.lit 1048576)), (.bin .subI (.bin .mulI (.var 2) (.lit 1048576)) (.bin .mulI (.var 3) (.var 0)))], [], []⟩ ⟨[(.bin .mulI (.bin .subI (.bin .mulI (.var 0) (.lit 1048576)) (.bin .mulI (.var 3) (.var 2))) (.lit 1048576)), (.bin .subI (.bin .mulI (.var 2) (.lit 1048576)) (.bin .mulI (.var 3) (.var 0))), (.var 7), (.var 8)], [], []⟩ ⟨95, [(.int .i64 (.bin .mulI (.bin .subI (.bin .mulI (.var 0) (.lit 1048576)) (.bin .mulI (.var 3) (.var 2))) (.lit 1048576))), (.int .i64 (.bin .subI (.bin .mulI (.var 2) (.lit 1048576)) (.bin .mulI (.var 3) (.var 0))))], [], [none, none, none, none], (.agg [(.int .i64 (.var 7)), (.int .i64 (.var 8))]), []⟩
  (.ret ⟨[(.bin .minI (.var 5) (.var 7)), (.bin .maxI (.var 6) (.var 8))], [], []⟩ [])))
theorem cow {x0 x1 x2 x3 x4 : Int} (r0 : (-1000) ≤ x0 ∧ x0 ≤ 1000) (r1 : (-1000) ≤ x1 ∧ x1 ≤ 1000) (r2 : 1 ≤ x2 ∧ x2 ≤ 1000) (r3 : (-1048576) ≤ x3 ∧ x3 ≤ 1048576) (r4 : (-1048576) ≤ x4 ∧ x4 ≤ 1048576) {R : Int → Int → Prop}
  (H : (∃ v5 : Int, ∃ v6 : Int, Spec Tryz.prog span_Quotient_s ⟨[(((x0 * 1048576) - (x4 * x2)) * 1048576), ((x2 * 1048576) - (x4 * x0))], [], []⟩ [v5, v6] [] [] ∧
   (∃ v7 : Int, ∃ v8 : Int, Spec Tryz.prog span_Quotient_s ⟨[(((x0 * 1048576) - (x3 * x2)) * 1048576), ((x2 * 1048576) - (x3 * x0))], [], []⟩ [v7, v8] [] [] ∧
   R ((if (v7 : Int) < v5 then v7 else v5)) ((if (v8 : Int) > v6 then v8 else v6))))) :
    ∃ v0 : Int, ∃ v1 : Int, R v0 v1 ∧ Spec Tryz.prog meter_cosine_s ⟨[x0, x1, x2, x3, x4], [], []⟩ [v0, v1] [] [] :=
  Eq.mp (by kernel_rfl) (exV_of (K := fun d => app3 meter_cosine_s.out R d ∧ Spec Tryz.prog meter_cosine_s ⟨[x0, x1, x2, x3, x4], [], []⟩ d.1 d.2.1 d.2.2) (tree_at mixed names S1_ok (S := S1 Tryz.prog) (lf := 100000) (d := 60) meter_cosine_s cow_t { ivs := [(0, (-1000), 1000), (1, (-1000), 1000), (2, 1, 1000), (3, (-1048576), 1048576), (4, (-1048576), 1048576)], aivs := [] } ⟨[x0, x1, x2, x3, x4], [], []⟩ rfl (by kernel_rfl) (by kernel_rfl) (by kernel_rfl) ⟨(fc r0 (fc r1 (fc r2 (fc r3 (fc r4 fz))))), fz, fz, fz⟩ (R := fun d => app3 meter_cosine_s.out R d) (Eq.mp (by kernel_rfl) H)))

def siw_t : Tr :=
  (.call span_Quotient_s ⟨[(.bin .mulI (.var 3) (.bin .subI (.bin .mulI (.var 2) (.lit 1048576)) (.bin .mulI (.var 5) (.var 0)))), (.bin .mulI (.var 1) (.lit 1048576))], [], []⟩ ⟨[(.bin .mulI (.var 3) (.bin .subI (.bin .mulI (.var 2) (.lit 1048576)) (.bin .mulI (.var 5) (.var 0)))), (.bin .mulI (.var 1) (.lit 1048576)), (.var 7), (.var 8)], [], []⟩ ⟨95, [(.int .i64 (.bin .mulI (.var 3) (.bin .subI (.bin .mulI (.var 2) (.lit 1048576)) (.bin .mulI (.var 5) (.var 0))))), (.int .i64 (.bin .mulI (.var 1) (.lit 1048576)))], [], [none, none, none, none, none, none, none, none], (.agg [(.int .i64 (.var 7)), (.int .i64 (.var 8))]), []⟩
  (.call span_Quotient_s ⟨[(.bin .mulI (.var 3) (.bin .subI (.bin .mulI (.var 2) (.lit 1048576)) (.bin .mulI (.var 6) (.var 0)))), (.bin .mulI (.var 1) (.lit 1048576))], [], []⟩ ⟨[(.bin .mulI (.var 3) (.bin .subI (.bin .mulI (.var 2) (.lit 1048576)) (.bin .mulI (.var 6) (.var 0)))), (.bin .mulI (.var 1) (.lit 1048576)), (.var 9), (.var 10)], [], []⟩ ⟨95, [(.int .i64 (.bin .mulI (.var 3) (.bin .subI (.bin .mulI (.var 2) (.lit 1048576)) (.bin .mulI (.var 6) (.var 0))))), (.int .i64 (.bin .mulI (.var 1) (.lit 1048576)))], [], [none, none, none, none, none, none, none, none], (.agg [(.int .i64 (.var 9)), (.int .i64 (.var 10))]), []⟩
  (.call span_Quotient_s ⟨[(.bin .mulI (.var 4) (.bin .subI (.bin .mulI (.var 2) (.lit 1048576)) (.bin .mulI (.var 5) (.var 0)))), (.bin .mulI (.var 1) (.lit 1048576))], [], []⟩ ⟨[(.bin .mulI (.var 4) (.bin .subI (.bin .mulI (.var 2) (.lit 1048576)) (.bin .mulI (.var 5) (.var 0)))), (.bin .mulI (.var 1) (.lit 1048576)), (.var 11), (.var 12)], [], []⟩ ⟨95, [(.int .i64 (.bin .mulI (.var 4) (.bin .subI (.bin .mulI (.var 2) (.lit 1048576)) (.bin .mulI (.var 5) (.var 0))))), (.int .i64 (.bin .mulI (.var 1) (.lit 1048576)))], [], [none, none, none, none, none, none, none, none], (.agg [(.int .i64 (.var 11)), (.int .i64 (.var 12))]), []⟩
  (.call span_Quotient_s ⟨[(.bin .mulI (.var 4) (.bin .subI (.bin .mulI (.var 2) (.lit 1048576)) (.bin .mulI (.var 6) (.var 0)))), (.bin .mulI (.var 1) (.lit 1048576))], [], []⟩ ⟨[(.bin .mulI (.var 4) (.bin .subI (.bin .mulI (.var 2) (.lit 1048576)) (.bin .mulI (.var 6) (.var 0)))), (.bin .mulI (.var 1) (.lit 1048576)), (.var 13), (.var 14)], [], []⟩ ⟨95, [(.int .i64 (.bin .mulI (.var 4) (.bin .subI (.bin .mulI (.var 2) (.lit 1048576)) (.bin .mulI (.var 6) (.var 0))))), (.int .i64 (.bin .mulI (.var 1) (.lit 1048576)))], [], [none, none, none, none, none, none, none, none], (.agg [(.int .i64 (.var 13)), (.int .i64 (.var 14))]), []⟩
  (.ret ⟨[(.bin .minI (.bin .minI (.bin .minI (.var 7) (.var 9)) (.var 11)) (.var 13)), (.bin .maxI (.bin .maxI (.bin .maxI (.var 8) (.var 10)) (.var 12)) (.var 14))], [], []⟩ [])))))
theorem siw {x0 x1 x2 x3 x4 x5 x6 : Int} (r0 : (-1000) ≤ x0 ∧ x0 ≤ 1000) (r1 : (-1000) ≤ x1 ∧ x1 ≤ 1000) (r2 : 1 ≤ x2 ∧ x2 ≤ 1000) (r3 : (-1048576) ≤ x3 ∧ x3 ≤ 1048576) (r4 : (-1048576) ≤ x4 ∧ x4 ≤ 1048576) (r5 : (-1048576) ≤ x5 ∧ x5 ≤ 1048576) (r6 : (-1048576) ≤ x6 ∧ x6 ≤ 1048576) {R : Int → Int → Prop}
  (H : (∃ v7 : Int, ∃ v8 : Int, Spec Tryz.prog span_Quotient_s ⟨[(x3 * ((x2 * 1048576) - (x5 * x0))), (x1 * 1048576)], [], []⟩ [v7, v8] [] [] ∧
   (∃ v9 : Int, ∃ v10 : Int, Spec Tryz.prog span_Quotient_s ⟨[(x3 * ((x2 * 1048576) - (x6 * x0))), (x1 * 1048576)], [], []⟩ [v9, v10] [] [] ∧
   (∃ v11 : Int, ∃ v12 : Int, Spec Tryz.prog span_Quotient_s ⟨[(x4 * ((x2 * 1048576) - (x5 * x0))), (x1 * 1048576)], [], []⟩ [v11, v12] [] [] ∧
   (∃ v13 : Int, ∃ v14 : Int, Spec Tryz.prog span_Quotient_s ⟨[(x4 * ((x2 * 1048576) - (x6 * x0))), (x1 * 1048576)], [], []⟩ [v13, v14] [] [] ∧
   R ((if (v13 : Int) < (if (v11 : Int) < (if (v9 : Int) < v7 then v9 else v7) then v11 else (if (v9 : Int) < v7 then v9 else v7)) then v13 else (if (v11 : Int) < (if (v9 : Int) < v7 then v9 else v7) then v11 else (if (v9 : Int) < v7 then v9 else v7)))) ((if (v14 : Int) > (if (v12 : Int) > (if (v10 : Int) > v8 then v10 else v8) then v12 else (if (v10 : Int) > v8 then v10 else v8)) then v14 else (if (v12 : Int) > (if (v10 : Int) > v8 then v10 else v8) then v12 else (if (v10 : Int) > v8 then v10 else v8))))))))) :
    ∃ v0 : Int, ∃ v1 : Int, R v0 v1 ∧ Spec Tryz.prog meter_sine_s ⟨[x0, x1, x2, x3, x4, x5, x6], [], []⟩ [v0, v1] [] [] :=
  Eq.mp (by kernel_rfl) (exV_of (K := fun d => app3 meter_sine_s.out R d ∧ Spec Tryz.prog meter_sine_s ⟨[x0, x1, x2, x3, x4, x5, x6], [], []⟩ d.1 d.2.1 d.2.2) (tree_at mixed names S1_ok (S := S1 Tryz.prog) (lf := 100000) (d := 60) meter_sine_s siw_t { ivs := [(0, (-1000), 1000), (1, (-1000), 1000), (2, 1, 1000), (3, (-1048576), 1048576), (4, (-1048576), 1048576), (5, (-1048576), 1048576), (6, (-1048576), 1048576)], aivs := [] } ⟨[x0, x1, x2, x3, x4, x5, x6], [], []⟩ rfl (by kernel_rfl) (by kernel_rfl) (by kernel_rfl) ⟨(fc r0 (fc r1 (fc r2 (fc r3 (fc r4 (fc r5 (fc r6 fz))))))), fz, fz, fz⟩ (R := fun d => app3 meter_sine_s.out R d) (Eq.mp (by kernel_rfl) H)))

def now_t : Tr :=
  (.call etalonbase_Floor_s ⟨[(.bin .mulI (.bin .subI (.bin .mulI (.var 2) (.lit 1048576)) (.bin .mulI (.var 1) (.var 4))) (.lit 1048576)), (.bin .subI (.bin .mulI (.var 4) (.lit 1048576)) (.bin .mulI (.var 1) (.var 2)))], [], []⟩ ⟨[(.bin .mulI (.bin .subI (.bin .mulI (.var 2) (.lit 1048576)) (.bin .mulI (.var 1) (.var 4))) (.lit 1048576)), (.bin .subI (.bin .mulI (.var 4) (.lit 1048576)) (.bin .mulI (.var 1) (.var 2))), (.var 5)], [], []⟩ ⟨75, [(.int .i64 (.bin .mulI (.bin .subI (.bin .mulI (.var 2) (.lit 1048576)) (.bin .mulI (.var 1) (.var 4))) (.lit 1048576))), (.int .i64 (.bin .subI (.bin .mulI (.var 4) (.lit 1048576)) (.bin .mulI (.var 1) (.var 2))))], [], [none, none, none], (.int .i64 (.var 5)), []⟩
  (.call etalonbase_Ceil_s ⟨[(.bin .mulI (.bin .subI (.bin .mulI (.var 2) (.lit 1048576)) (.bin .mulI (.var 0) (.var 4))) (.lit 1048576)), (.bin .subI (.bin .mulI (.var 4) (.lit 1048576)) (.bin .mulI (.var 0) (.var 2)))], [], []⟩ ⟨[(.bin .mulI (.bin .subI (.bin .mulI (.var 2) (.lit 1048576)) (.bin .mulI (.var 0) (.var 4))) (.lit 1048576)), (.bin .subI (.bin .mulI (.var 4) (.lit 1048576)) (.bin .mulI (.var 0) (.var 2))), (.var 6)], [], []⟩ ⟨76, [(.int .i64 (.bin .mulI (.bin .subI (.bin .mulI (.var 2) (.lit 1048576)) (.bin .mulI (.var 0) (.var 4))) (.lit 1048576))), (.int .i64 (.bin .subI (.bin .mulI (.var 4) (.lit 1048576)) (.bin .mulI (.var 0) (.var 2))))], [], [none, none, none], (.int .i64 (.var 6)), []⟩
  (.ret ⟨[(.var 5), (.var 6)], [], []⟩ [])))
theorem now {x0 x1 x2 x3 x4 : Int} (r0 : (-1048576) ≤ x0 ∧ x0 ≤ 1048576) (r1 : (-1048576) ≤ x1 ∧ x1 ≤ 1048576) (r2 : (-1000) ≤ x2 ∧ x2 ≤ 1000) (r3 : (-1000) ≤ x3 ∧ x3 ≤ 1000) (r4 : 1 ≤ x4 ∧ x4 ≤ 1000) {R : Int → Int → Prop}
  (H : (∃ v5 : Int, Spec Tryz.prog etalonbase_Floor_s ⟨[(((x2 * 1048576) - (x1 * x4)) * 1048576), ((x4 * 1048576) - (x1 * x2))], [], []⟩ [v5] [] [] ∧
   (∃ v6 : Int, Spec Tryz.prog etalonbase_Ceil_s ⟨[(((x2 * 1048576) - (x0 * x4)) * 1048576), ((x4 * 1048576) - (x0 * x2))], [], []⟩ [v6] [] [] ∧
   R (v5) (v6)))) :
    ∃ v0 : Int, ∃ v1 : Int, R v0 v1 ∧ Spec Tryz.prog etalonref06_numberOf_s ⟨[x0, x1, x2, x3, x4], [], []⟩ [v0, v1] [] [] :=
  Eq.mp (by kernel_rfl) (exV_of (K := fun d => app3 etalonref06_numberOf_s.out R d ∧ Spec Tryz.prog etalonref06_numberOf_s ⟨[x0, x1, x2, x3, x4], [], []⟩ d.1 d.2.1 d.2.2) (tree_at mixed names S1_ok (S := S1 Tryz.prog) (lf := 100000) (d := 60) etalonref06_numberOf_s now_t { ivs := [(0, (-1048576), 1048576), (1, (-1048576), 1048576), (2, (-1000), 1000), (3, (-1000), 1000), (4, 1, 1000)], aivs := [] } ⟨[x0, x1, x2, x3, x4], [], []⟩ rfl (by kernel_rfl) (by kernel_rfl) (by kernel_rfl) ⟨(fc r0 (fc r1 (fc r2 (fc r3 (fc r4 fz))))), fz, fz, fz⟩ (R := fun d => app3 etalonref06_numberOf_s.out R d) (Eq.mp (by kernel_rfl) H)))

def otw_t : Tr :=
  (.ite (.icmp .leq (.lit 0) (.var 5))
  (.call etalonbase_Size_s ⟨[(.var 5)], [], []⟩ ⟨[(.var 5), (.var 7)], [], []⟩ ⟨56, [(.int .i64 (.var 5))], [], [none, none, none, none, none], (.int .i64 (.var 7)), []⟩
   (.rng 7 0 1000 (.call etalonbase_Floor_s ⟨[(.bin .minI (.bin .minI (.bin .minI (.bin .minI (.bin .mulI (.var 0) (.bin .subI (.bin .mulI (.var 6) (.lit 1048576)) (.bin .mulI (.var 2) (.var 4)))) (.bin .mulI (.var 0) (.bin .subI (.bin .mulI (.var 6) (.lit 1048576)) (.bin .mulI (.var 2) (.var 4))))) (.bin .mulI (.var 0) (.bin .subI (.bin .mulI (.var 6) (.lit 1048576)) (.bin .mulI (.var 3) (.var 4))))) (.bin .mulI (.var 1) (.bin .subI (.bin .mulI (.var 6) (.lit 1048576)) (.bin .mulI (.var 2) (.var 4))))) (.bin .mulI (.var 1) (.bin .subI (.bin .mulI (.var 6) (.lit 1048576)) (.bin .mulI (.var 3) (.var 4))))), (.bin .mulI (.var 7) (.lit 1048576))], [], []⟩ ⟨[(.bin .minI (.bin .minI (.bin .minI (.bin .minI (.bin .mulI (.var 0) (.bin .subI (.bin .mulI (.var 6) (.lit 1048576)) (.bin .mulI (.var 2) (.var 4)))) (.bin .mulI (.var 0) (.bin .subI (.bin .mulI (.var 6) (.lit 1048576)) (.bin .mulI (.var 2) (.var 4))))) (.bin .mulI (.var 0) (.bin .subI (.bin .mulI (.var 6) (.lit 1048576)) (.bin .mulI (.var 3) (.var 4))))) (.bin .mulI (.var 1) (.bin .subI (.bin .mulI (.var 6) (.lit 1048576)) (.bin .mulI (.var 2) (.var 4))))) (.bin .mulI (.var 1) (.bin .subI (.bin .mulI (.var 6) (.lit 1048576)) (.bin .mulI (.var 3) (.var 4))))), (.bin .mulI (.var 7) (.lit 1048576)), (.var 8)], [], []⟩ ⟨75, [(.int .i64 (.bin .minI (.bin .minI (.bin .minI (.bin .minI (.bin .mulI (.var 0) (.bin .subI (.bin .mulI (.var 6) (.lit 1048576)) (.bin .mulI (.var 2) (.var 4)))) (.bin .mulI (.var 0) (.bin .subI (.bin .mulI (.var 6) (.lit 1048576)) (.bin .mulI (.var 2) (.var 4))))) (.bin .mulI (.var 0) (.bin .subI (.bin .mulI (.var 6) (.lit 1048576)) (.bin .mulI (.var 3) (.var 4))))) (.bin .mulI (.var 1) (.bin .subI (.bin .mulI (.var 6) (.lit 1048576)) (.bin .mulI (.var 2) (.var 4))))) (.bin .mulI (.var 1) (.bin .subI (.bin .mulI (.var 6) (.lit 1048576)) (.bin .mulI (.var 3) (.var 4)))))), (.int .i64 (.bin .mulI (.var 7) (.lit 1048576)))], [], [none, none, none, none, none], (.int .i64 (.var 8)), []⟩
   (.call etalonbase_Ceil_s ⟨[(.bin .maxI (.bin .maxI (.bin .maxI (.bin .maxI (.bin .mulI (.var 0) (.bin .subI (.bin .mulI (.var 6) (.lit 1048576)) (.bin .mulI (.var 2) (.var 4)))) (.bin .mulI (.var 0) (.bin .subI (.bin .mulI (.var 6) (.lit 1048576)) (.bin .mulI (.var 2) (.var 4))))) (.bin .mulI (.var 0) (.bin .subI (.bin .mulI (.var 6) (.lit 1048576)) (.bin .mulI (.var 3) (.var 4))))) (.bin .mulI (.var 1) (.bin .subI (.bin .mulI (.var 6) (.lit 1048576)) (.bin .mulI (.var 2) (.var 4))))) (.bin .mulI (.var 1) (.bin .subI (.bin .mulI (.var 6) (.lit 1048576)) (.bin .mulI (.var 3) (.var 4))))), (.bin .mulI (.var 7) (.lit 1048576))], [], []⟩ ⟨[(.bin .maxI (.bin .maxI (.bin .maxI (.bin .maxI (.bin .mulI (.var 0) (.bin .subI (.bin .mulI (.var 6) (.lit 1048576)) (.bin .mulI (.var 2) (.var 4)))) (.bin .mulI (.var 0) (.bin .subI (.bin .mulI (.var 6) (.lit 1048576)) (.bin .mulI (.var 2) (.var 4))))) (.bin .mulI (.var 0) (.bin .subI (.bin .mulI (.var 6) (.lit 1048576)) (.bin .mulI (.var 3) (.var 4))))) (.bin .mulI (.var 1) (.bin .subI (.bin .mulI (.var 6) (.lit 1048576)) (.bin .mulI (.var 2) (.var 4))))) (.bin .mulI (.var 1) (.bin .subI (.bin .mulI (.var 6) (.lit 1048576)) (.bin .mulI (.var 3) (.var 4))))), (.bin .mulI (.var 7) (.lit 1048576)), (.var 9)], [], []⟩ ⟨76, [(.int .i64 (.bin .maxI (.bin .maxI (.bin .maxI (.bin .maxI (.bin .mulI (.var 0) (.bin .subI (.bin .mulI (.var 6) (.lit 1048576)) (.bin .mulI (.var 2) (.var 4)))) (.bin .mulI (.var 0) (.bin .subI (.bin .mulI (.var 6) (.lit 1048576)) (.bin .mulI (.var 2) (.var 4))))) (.bin .mulI (.var 0) (.bin .subI (.bin .mulI (.var 6) (.lit 1048576)) (.bin .mulI (.var 3) (.var 4))))) (.bin .mulI (.var 1) (.bin .subI (.bin .mulI (.var 6) (.lit 1048576)) (.bin .mulI (.var 2) (.var 4))))) (.bin .mulI (.var 1) (.bin .subI (.bin .mulI (.var 6) (.lit 1048576)) (.bin .mulI (.var 3) (.var 4)))))), (.int .i64 (.bin .mulI (.var 7) (.lit 1048576)))], [], [none, none, none, none, none], (.int .i64 (.var 9)), []⟩
   (.call etalonref06_cut_s ⟨[(.var 8), (.var 9)], [], []⟩ ⟨[(.var 8), (.var 9), (.var 10), (.var 11), (.var 12)], [], []⟩ ⟨102, [(.agg [(.int .i64 (.var 8)), (.int .i64 (.var 9))])], [], [none, none, none, none, none], (.tuple [(.agg [(.int .i64 (.var 10)), (.int .i64 (.var 11))]), (.int .i64 (.var 12))]), []⟩
   (.ret ⟨[(.var 10), (.var 11), (.var 12)], [], []⟩ []))))))
  (.call etalonbase_Size_s ⟨[(.var 5)], [], []⟩ ⟨[(.var 5), (.var 7)], [], []⟩ ⟨56, [(.int .i64 (.var 5))], [], [none, none, none, none, none], (.int .i64 (.var 7)), []⟩
   (.rng 7 0 1000 (.call etalonbase_Floor_s ⟨[(.bin .minI (.bin .minI (.bin .minI (.bin .minI (.bin .subI (.lit 0) (.bin .mulI (.var 0) (.bin .subI (.bin .mulI (.var 6) (.lit 1048576)) (.bin .mulI (.var 2) (.var 4))))) (.bin .subI (.lit 0) (.bin .mulI (.var 0) (.bin .subI (.bin .mulI (.var 6) (.lit 1048576)) (.bin .mulI (.var 2) (.var 4)))))) (.bin .subI (.lit 0) (.bin .mulI (.var 0) (.bin .subI (.bin .mulI (.var 6) (.lit 1048576)) (.bin .mulI (.var 3) (.var 4)))))) (.bin .subI (.lit 0) (.bin .mulI (.var 1) (.bin .subI (.bin .mulI (.var 6) (.lit 1048576)) (.bin .mulI (.var 2) (.var 4)))))) (.bin .subI (.lit 0) (.bin .mulI (.var 1) (.bin .subI (.bin .mulI (.var 6) (.lit 1048576)) (.bin .mulI (.var 3) (.var 4)))))), (.bin .mulI (.var 7) (.lit 1048576))], [], []⟩ ⟨[(.bin .minI (.bin .minI (.bin .minI (.bin .minI (.bin .subI (.lit 0) (.bin .mulI (.var 0) (.bin .subI (.bin .mulI (.var 6) (.lit 1048576)) (.bin .mulI (.var 2) (.var 4))))) (.bin .subI (.lit 0) (.bin .mulI (.var 0) (.bin .subI (.bin .mulI (.var 6) (.lit 1048576)) (.bin .mulI (.var 2) (.var 4)))))) (.bin .subI (.lit 0) (.bin .mulI (.var 0) (.bin .subI (.bin .mulI (.var 6) (.lit 1048576)) (.bin .mulI (.var 3) (.var 4)))))) (.bin .subI (.lit 0) (.bin .mulI (.var 1) (.bin .subI (.bin .mulI (.var 6) (.lit 1048576)) (.bin .mulI (.var 2) (.var 4)))))) (.bin .subI (.lit 0) (.bin .mulI (.var 1) (.bin .subI (.bin .mulI (.var 6) (.lit 1048576)) (.bin .mulI (.var 3) (.var 4)))))), (.bin .mulI (.var 7) (.lit 1048576)), (.var 8)], [], []⟩ ⟨75, [(.int .i64 (.bin .minI (.bin .minI (.bin .minI (.bin .minI (.bin .subI (.lit 0) (.bin .mulI (.var 0) (.bin .subI (.bin .mulI (.var 6) (.lit 1048576)) (.bin .mulI (.var 2) (.var 4))))) (.bin .subI (.lit 0) (.bin .mulI (.var 0) (.bin .subI (.bin .mulI (.var 6) (.lit 1048576)) (.bin .mulI (.var 2) (.var 4)))))) (.bin .subI (.lit 0) (.bin .mulI (.var 0) (.bin .subI (.bin .mulI (.var 6) (.lit 1048576)) (.bin .mulI (.var 3) (.var 4)))))) (.bin .subI (.lit 0) (.bin .mulI (.var 1) (.bin .subI (.bin .mulI (.var 6) (.lit 1048576)) (.bin .mulI (.var 2) (.var 4)))))) (.bin .subI (.lit 0) (.bin .mulI (.var 1) (.bin .subI (.bin .mulI (.var 6) (.lit 1048576)) (.bin .mulI (.var 3) (.var 4))))))), (.int .i64 (.bin .mulI (.var 7) (.lit 1048576)))], [], [none, none, none, none, none], (.int .i64 (.var 8)), []⟩
   (.call etalonbase_Ceil_s ⟨[(.bin .maxI (.bin .maxI (.bin .maxI (.bin .maxI (.bin .subI (.lit 0) (.bin .mulI (.var 0) (.bin .subI (.bin .mulI (.var 6) (.lit 1048576)) (.bin .mulI (.var 2) (.var 4))))) (.bin .subI (.lit 0) (.bin .mulI (.var 0) (.bin .subI (.bin .mulI (.var 6) (.lit 1048576)) (.bin .mulI (.var 2) (.var 4)))))) (.bin .subI (.lit 0) (.bin .mulI (.var 0) (.bin .subI (.bin .mulI (.var 6) (.lit 1048576)) (.bin .mulI (.var 3) (.var 4)))))) (.bin .subI (.lit 0) (.bin .mulI (.var 1) (.bin .subI (.bin .mulI (.var 6) (.lit 1048576)) (.bin .mulI (.var 2) (.var 4)))))) (.bin .subI (.lit 0) (.bin .mulI (.var 1) (.bin .subI (.bin .mulI (.var 6) (.lit 1048576)) (.bin .mulI (.var 3) (.var 4)))))), (.bin .mulI (.var 7) (.lit 1048576))], [], []⟩ ⟨[(.bin .maxI (.bin .maxI (.bin .maxI (.bin .maxI (.bin .subI (.lit 0) (.bin .mulI (.var 0) (.bin .subI (.bin .mulI (.var 6) (.lit 1048576)) (.bin .mulI (.var 2) (.var 4))))) (.bin .subI (.lit 0) (.bin .mulI (.var 0) (.bin .subI (.bin .mulI (.var 6) (.lit 1048576)) (.bin .mulI (.var 2) (.var 4)))))) (.bin .subI (.lit 0) (.bin .mulI (.var 0) (.bin .subI (.bin .mulI (.var 6) (.lit 1048576)) (.bin .mulI (.var 3) (.var 4)))))) (.bin .subI (.lit 0) (.bin .mulI (.var 1) (.bin .subI (.bin .mulI (.var 6) (.lit 1048576)) (.bin .mulI (.var 2) (.var 4)))))) (.bin .subI (.lit 0) (.bin .mulI (.var 1) (.bin .subI (.bin .mulI (.var 6) (.lit 1048576)) (.bin .mulI (.var 3) (.var 4)))))), (.bin .mulI (.var 7) (.lit 1048576)), (.var 9)], [], []⟩ ⟨76, [(.int .i64 (.bin .maxI (.bin .maxI (.bin .maxI (.bin .maxI (.bin .subI (.lit 0) (.bin .mulI (.var 0) (.bin .subI (.bin .mulI (.var 6) (.lit 1048576)) (.bin .mulI (.var 2) (.var 4))))) (.bin .subI (.lit 0) (.bin .mulI (.var 0) (.bin .subI (.bin .mulI (.var 6) (.lit 1048576)) (.bin .mulI (.var 2) (.var 4)))))) (.bin .subI (.lit 0) (.bin .mulI (.var 0) (.bin .subI (.bin .mulI (.var 6) (.lit 1048576)) (.bin .mulI (.var 3) (.var 4)))))) (.bin .subI (.lit 0) (.bin .mulI (.var 1) (.bin .subI (.bin .mulI (.var 6) (.lit 1048576)) (.bin .mulI (.var 2) (.var 4)))))) (.bin .subI (.lit 0) (.bin .mulI (.var 1) (.bin .subI (.bin .mulI (.var 6) (.lit 1048576)) (.bin .mulI (.var 3) (.var 4))))))), (.int .i64 (.bin .mulI (.var 7) (.lit 1048576)))], [], [none, none, none, none, none], (.int .i64 (.var 9)), []⟩
   (.call etalonref06_cut_s ⟨[(.var 8), (.var 9)], [], []⟩ ⟨[(.var 8), (.var 9), (.var 10), (.var 11), (.var 12)], [], []⟩ ⟨102, [(.agg [(.int .i64 (.var 8)), (.int .i64 (.var 9))])], [], [none, none, none, none, none], (.tuple [(.agg [(.int .i64 (.var 10)), (.int .i64 (.var 11))]), (.int .i64 (.var 12))]), []⟩
   (.ret ⟨[(.var 10), (.var 11), (.var 12)], [], []⟩ [])))))))
theorem otw {x0 x1 x2 x3 x4 x5 x6 : Int} (r0 : (-1048576) ≤ x0 ∧ x0 ≤ 1048576) (r1 : (-1048576) ≤ x1 ∧ x1 ≤ 1048576) (r2 : (-1048576) ≤ x2 ∧ x2 ≤ 1048576) (r3 : (-1048576) ≤ x3 ∧ x3 ≤ 1048576) (r4 : (-1000) ≤ x4 ∧ x4 ≤ 1000) (r5 : (-1000) ≤ x5 ∧ x5 ≤ 1000) (r6 : 1 ≤ x6 ∧ x6 ≤ 1000) {R : Int → Int → Int → Prop}
  (H : ((decide ((0 : Int) ≤ x5) = true → (∃ v7 : Int, Spec Tryz.prog etalonbase_Size_s ⟨[x5], [], []⟩ [v7] [] [] ∧
    ((0 ≤ (v7 : Int) ∧ (v7 : Int) ≤ 1000) ∧ (∃ v8 : Int, Spec Tryz.prog etalonbase_Floor_s ⟨[(if ((x1 * ((x6 * 1048576) - (x3 * x4))) : Int) < (if ((x1 * ((x6 * 1048576) - (x2 * x4))) : Int) < (if ((x0 * ((x6 * 1048576) - (x3 * x4))) : Int) < (if ((x0 * ((x6 * 1048576) - (x2 * x4))) : Int) < (x0 * ((x6 * 1048576) - (x2 * x4))) then (x0 * ((x6 * 1048576) - (x2 * x4))) else (x0 * ((x6 * 1048576) - (x2 * x4)))) then (x0 * ((x6 * 1048576) - (x3 * x4))) else (if ((x0 * ((x6 * 1048576) - (x2 * x4))) : Int) < (x0 * ((x6 * 1048576) - (x2 * x4))) then (x0 * ((x6 * 1048576) - (x2 * x4))) else (x0 * ((x6 * 1048576) - (x2 * x4))))) then (x1 * ((x6 * 1048576) - (x2 * x4))) else (if ((x0 * ((x6 * 1048576) - (x3 * x4))) : Int) < (if ((x0 * ((x6 * 1048576) - (x2 * x4))) : Int) < (x0 * ((x6 * 1048576) - (x2 * x4))) then (x0 * ((x6 * 1048576) - (x2 * x4))) else (x0 * ((x6 * 1048576) - (x2 * x4)))) then (x0 * ((x6 * 1048576) - (x3 * x4))) else (if ((x0 * ((x6 * 1048576) - (x2 * x4))) : Int) < (x0 * ((x6 * 1048576) - (x2 * x4))) then (x0 * ((x6 * 1048576) - (x2 * x4))) else (x0 * ((x6 * 1048576) - (x2 * x4)))))) then (x1 * ((x6 * 1048576) - (x3 * x4))) else (if ((x1 * ((x6 * 1048576) - (x2 * x4))) : Int) < (if ((x0 * ((x6 * 1048576) - (x3 * x4))) : Int) < (if ((x0 * ((x6 * 1048576) - (x2 * x4))) : Int) < (x0 * ((x6 * 1048576) - (x2 * x4))) then (x0 * ((x6 * 1048576) - (x2 * x4))) else (x0 * ((x6 * 1048576) - (x2 * x4)))) then (x0 * ((x6 * 1048576) - (x3 * x4))) else (if ((x0 * ((x6 * 1048576) - (x2 * x4))) : Int) < (x0 * ((x6 * 1048576) - (x2 * x4))) then (x0 * ((x6 * 1048576) - (x2 * x4))) else (x0 * ((x6 * 1048576) - (x2 * x4))))) then (x1 * ((x6 * 1048576) - (x2 * x4))) else (if ((x0 * ((x6 * 1048576) - (x3 * x4))) : Int) < (if ((x0 * ((x6 * 1048576) - (x2 * x4))) : Int) < (x0 * ((x6 * 1048576) - (x2 * x4))) then (x0 * ((x6 * 1048576) - (x2 * x4))) else (x0 * ((x6 * 1048576) - (x2 * x4)))) then (x0 * ((x6 * 1048576) - (x3 * x4))) else (if ((x0 * ((x6 * 1048576) - (x2 * x4))) : Int) < (x0 * ((x6 * 1048576) - (x2 * x4))) then (x0 * ((x6 * 1048576) - (x2 * x4))) else (x0 * ((x6 * 1048576) - (x2 * x4))))))), (v7 * 1048576)], [], []⟩ [v8] [] [] ∧
    (∃ v9 : Int, Spec Tryz.prog etalonbase_Ceil_s ⟨[(if ((x1 * ((x6 * 1048576) - (x3 * x4))) : Int) > (if ((x1 * ((x6 * 1048576) - (x2 * x4))) : Int) > (if ((x0 * ((x6 * 1048576) - (x3 * x4))) : Int) > (if ((x0 * ((x6 * 1048576) - (x2 * x4))) : Int) > (x0 * ((x6 * 1048576) - (x2 * x4))) then (x0 * ((x6 * 1048576) - (x2 * x4))) else (x0 * ((x6 * 1048576) - (x2 * x4)))) then (x0 * ((x6 * 1048576) - (x3 * x4))) else (if ((x0 * ((x6 * 1048576) - (x2 * x4))) : Int) > (x0 * ((x6 * 1048576) - (x2 * x4))) then (x0 * ((x6 * 1048576) - (x2 * x4))) else (x0 * ((x6 * 1048576) - (x2 * x4))))) then (x1 * ((x6 * 1048576) - (x2 * x4))) else (if ((x0 * ((x6 * 1048576) - (x3 * x4))) : Int) > (if ((x0 * ((x6 * 1048576) - (x2 * x4))) : Int) > (x0 * ((x6 * 1048576) - (x2 * x4))) then (x0 * ((x6 * 1048576) - (x2 * x4))) else (x0 * ((x6 * 1048576) - (x2 * x4)))) then (x0 * ((x6 * 1048576) - (x3 * x4))) else (if ((x0 * ((x6 * 1048576) - (x2 * x4))) : Int) > (x0 * ((x6 * 1048576) - (x2 * x4))) then (x0 * ((x6 * 1048576) - (x2 * x4))) else (x0 * ((x6 * 1048576) - (x2 * x4)))))) then (x1 * ((x6 * 1048576) - (x3 * x4))) else (if ((x1 * ((x6 * 1048576) - (x2 * x4))) : Int) > (if ((x0 * ((x6 * 1048576) - (x3 * x4))) : Int) > (if ((x0 * ((x6 * 1048576) - (x2 * x4))) : Int) > (x0 * ((x6 * 1048576) - (x2 * x4))) then (x0 * ((x6 * 1048576) - (x2 * x4))) else (x0 * ((x6 * 1048576) - (x2 * x4)))) then (x0 * ((x6 * 1048576) - (x3 * x4))) else (if ((x0 * ((x6 * 1048576) - (x2 * x4))) : Int) > (x0 * ((x6 * 1048576) - (x2 * x4))) then (x0 * ((x6 * 1048576) - (x2 * x4))) else (x0 * ((x6 * 1048576) - (x2 * x4))))) then (x1 * ((x6 * 1048576) - (x2 * x4))) else (if ((x0 * ((x6 * 1048576) - (x3 * x4))) : Int) > (if ((x0 * ((x6 * 1048576) - (x2 * x4))) : Int) > (x0 * ((x6 * 1048576) - (x2 * x4))) then (x0 * ((x6 * 1048576) - (x2 * x4))) else (x0 * ((x6 * 1048576) - (x2 * x4)))) then (x0 * ((x6 * 1048576) - (x3 * x4))) else (if ((x0 * ((x6 * 1048576) - (x2 * x4))) : Int) > (x0 * ((x6 * 1048576) - (x2 * x4))) then (x0 * ((x6 * 1048576) - (x2 * x4))) else (x0 * ((x6 * 1048576) - (x2 * x4))))))), (v7 * 1048576)], [], []⟩ [v9] [] [] ∧
    (∃ v10 : Int, ∃ v11 : Int, ∃ v12 : Int, Spec Tryz.prog etalonref06_cut_s ⟨[v8, v9], [], []⟩ [v10, v11, v12] [] [] ∧
    R (v10) (v11) (v12))))))) ∧
   (decide ((0 : Int) ≤ x5) = false → (∃ v7 : Int, Spec Tryz.prog etalonbase_Size_s ⟨[x5], [], []⟩ [v7] [] [] ∧
    ((0 ≤ (v7 : Int) ∧ (v7 : Int) ≤ 1000) ∧ (∃ v8 : Int, Spec Tryz.prog etalonbase_Floor_s ⟨[(if ((0 - (x1 * ((x6 * 1048576) - (x3 * x4)))) : Int) < (if ((0 - (x1 * ((x6 * 1048576) - (x2 * x4)))) : Int) < (if ((0 - (x0 * ((x6 * 1048576) - (x3 * x4)))) : Int) < (if ((0 - (x0 * ((x6 * 1048576) - (x2 * x4)))) : Int) < (0 - (x0 * ((x6 * 1048576) - (x2 * x4)))) then (0 - (x0 * ((x6 * 1048576) - (x2 * x4)))) else (0 - (x0 * ((x6 * 1048576) - (x2 * x4))))) then (0 - (x0 * ((x6 * 1048576) - (x3 * x4)))) else (if ((0 - (x0 * ((x6 * 1048576) - (x2 * x4)))) : Int) < (0 - (x0 * ((x6 * 1048576) - (x2 * x4)))) then (0 - (x0 * ((x6 * 1048576) - (x2 * x4)))) else (0 - (x0 * ((x6 * 1048576) - (x2 * x4)))))) then (0 - (x1 * ((x6 * 1048576) - (x2 * x4)))) else (if ((0 - (x0 * ((x6 * 1048576) - (x3 * x4)))) : Int) < (if ((0 - (x0 * ((x6 * 1048576) - (x2 * x4)))) : Int) < (0 - (x0 * ((x6 * 1048576) - (x2 * x4)))) then (0 - (x0 * ((x6 * 1048576) - (x2 * x4)))) else (0 - (x0 * ((x6 * 1048576) - (x2 * x4))))) then (0 - (x0 * ((x6 * 1048576) - (x3 * x4)))) else (if ((0 - (x0 * ((x6 * 1048576) - (x2 * x4)))) : Int) < (0 - (x0 * ((x6 * 1048576) - (x2 * x4)))) then (0 - (x0 * ((x6 * 1048576) - (x2 * x4)))) else (0 - (x0 * ((x6 * 1048576) - (x2 * x4))))))) then (0 - (x1 * ((x6 * 1048576) - (x3 * x4)))) else (if ((0 - (x1 * ((x6 * 1048576) - (x2 * x4)))) : Int) < (if ((0 - (x0 * ((x6 * 1048576) - (x3 * x4)))) : Int) < (if ((0 - (x0 * ((x6 * 1048576) - (x2 * x4)))) : Int) < (0 - (x0 * ((x6 * 1048576) - (x2 * x4)))) then (0 - (x0 * ((x6 * 1048576) - (x2 * x4)))) else (0 - (x0 * ((x6 * 1048576) - (x2 * x4))))) then (0 - (x0 * ((x6 * 1048576) - (x3 * x4)))) else (if ((0 - (x0 * ((x6 * 1048576) - (x2 * x4)))) : Int) < (0 - (x0 * ((x6 * 1048576) - (x2 * x4)))) then (0 - (x0 * ((x6 * 1048576) - (x2 * x4)))) else (0 - (x0 * ((x6 * 1048576) - (x2 * x4)))))) then (0 - (x1 * ((x6 * 1048576) - (x2 * x4)))) else (if ((0 - (x0 * ((x6 * 1048576) - (x3 * x4)))) : Int) < (if ((0 - (x0 * ((x6 * 1048576) - (x2 * x4)))) : Int) < (0 - (x0 * ((x6 * 1048576) - (x2 * x4)))) then (0 - (x0 * ((x6 * 1048576) - (x2 * x4)))) else (0 - (x0 * ((x6 * 1048576) - (x2 * x4))))) then (0 - (x0 * ((x6 * 1048576) - (x3 * x4)))) else (if ((0 - (x0 * ((x6 * 1048576) - (x2 * x4)))) : Int) < (0 - (x0 * ((x6 * 1048576) - (x2 * x4)))) then (0 - (x0 * ((x6 * 1048576) - (x2 * x4)))) else (0 - (x0 * ((x6 * 1048576) - (x2 * x4)))))))), (v7 * 1048576)], [], []⟩ [v8] [] [] ∧
    (∃ v9 : Int, Spec Tryz.prog etalonbase_Ceil_s ⟨[(if ((0 - (x1 * ((x6 * 1048576) - (x3 * x4)))) : Int) > (if ((0 - (x1 * ((x6 * 1048576) - (x2 * x4)))) : Int) > (if ((0 - (x0 * ((x6 * 1048576) - (x3 * x4)))) : Int) > (if ((0 - (x0 * ((x6 * 1048576) - (x2 * x4)))) : Int) > (0 - (x0 * ((x6 * 1048576) - (x2 * x4)))) then (0 - (x0 * ((x6 * 1048576) - (x2 * x4)))) else (0 - (x0 * ((x6 * 1048576) - (x2 * x4))))) then (0 - (x0 * ((x6 * 1048576) - (x3 * x4)))) else (if ((0 - (x0 * ((x6 * 1048576) - (x2 * x4)))) : Int) > (0 - (x0 * ((x6 * 1048576) - (x2 * x4)))) then (0 - (x0 * ((x6 * 1048576) - (x2 * x4)))) else (0 - (x0 * ((x6 * 1048576) - (x2 * x4)))))) then (0 - (x1 * ((x6 * 1048576) - (x2 * x4)))) else (if ((0 - (x0 * ((x6 * 1048576) - (x3 * x4)))) : Int) > (if ((0 - (x0 * ((x6 * 1048576) - (x2 * x4)))) : Int) > (0 - (x0 * ((x6 * 1048576) - (x2 * x4)))) then (0 - (x0 * ((x6 * 1048576) - (x2 * x4)))) else (0 - (x0 * ((x6 * 1048576) - (x2 * x4))))) then (0 - (x0 * ((x6 * 1048576) - (x3 * x4)))) else (if ((0 - (x0 * ((x6 * 1048576) - (x2 * x4)))) : Int) > (0 - (x0 * ((x6 * 1048576) - (x2 * x4)))) then (0 - (x0 * ((x6 * 1048576) - (x2 * x4)))) else (0 - (x0 * ((x6 * 1048576) - (x2 * x4))))))) then (0 - (x1 * ((x6 * 1048576) - (x3 * x4)))) else (if ((0 - (x1 * ((x6 * 1048576) - (x2 * x4)))) : Int) > (if ((0 - (x0 * ((x6 * 1048576) - (x3 * x4)))) : Int) > (if ((0 - (x0 * ((x6 * 1048576) - (x2 * x4)))) : Int) > (0 - (x0 * ((x6 * 1048576) - (x2 * x4)))) then (0 - (x0 * ((x6 * 1048576) - (x2 * x4)))) else (0 - (x0 * ((x6 * 1048576) - (x2 * x4))))) then (0 - (x0 * ((x6 * 1048576) - (x3 * x4)))) else (if ((0 - (x0 * ((x6 * 1048576) - (x2 * x4)))) : Int) > (0 - (x0 * ((x6 * 1048576) - (x2 * x4)))) then (0 - (x0 * ((x6 * 1048576) - (x2 * x4)))) else (0 - (x0 * ((x6 * 1048576) - (x2 * x4)))))) then (0 - (x1 * ((x6 * 1048576) - (x2 * x4)))) else (if ((0 - (x0 * ((x6 * 1048576) - (x3 * x4)))) : Int) > (if ((0 - (x0 * ((x6 * 1048576) - (x2 * x4)))) : Int) > (0 - (x0 * ((x6 * 1048576) - (x2 * x4)))) then (0 - (x0 * ((x6 * 1048576) - (x2 * x4)))) else (0 - (x0 * ((x6 * 1048576) - (x2 * x4))))) then (0 - (x0 * ((x6 * 1048576) - (x3 * x4)))) else (if ((0 - (x0 * ((x6 * 1048576) - (x2 * x4)))) : Int) > (0 - (x0 * ((x6 * 1048576) - (x2 * x4)))) then (0 - (x0 * ((x6 * 1048576) - (x2 * x4)))) else (0 - (x0 * ((x6 * 1048576) - (x2 * x4)))))))), (v7 * 1048576)], [], []⟩ [v9] [] [] ∧
    (∃ v10 : Int, ∃ v11 : Int, ∃ v12 : Int, Spec Tryz.prog etalonref06_cut_s ⟨[v8, v9], [], []⟩ [v10, v11, v12] [] [] ∧
    R (v10) (v11) (v12))))))))) :
    ∃ v0 : Int, ∃ v1 : Int, ∃ v2 : Int, R v0 v1 v2 ∧ Spec Tryz.prog etalonref06_other_s ⟨[x0, x1, x2, x3, x4, x5, x6], [], []⟩ [v0, v1, v2] [] [] :=
  Eq.mp (by kernel_rfl) (exV_of (K := fun d => app3 etalonref06_other_s.out R d ∧ Spec Tryz.prog etalonref06_other_s ⟨[x0, x1, x2, x3, x4, x5, x6], [], []⟩ d.1 d.2.1 d.2.2) (tree_at mixed names S1_ok (S := S1 Tryz.prog) (lf := 100000) (d := 60) etalonref06_other_s otw_t { ivs := [(0, (-1048576), 1048576), (1, (-1048576), 1048576), (2, (-1048576), 1048576), (3, (-1048576), 1048576), (4, (-1000), 1000), (5, (-1000), 1000), (6, 1, 1000)], aivs := [] } ⟨[x0, x1, x2, x3, x4, x5, x6], [], []⟩ rfl (by kernel_rfl) (by kernel_rfl) (by kernel_rfl) ⟨(fc r0 (fc r1 (fc r2 (fc r3 (fc r4 (fc r5 (fc r6 fz))))))), fz, fz, fz⟩ (R := fun d => app3 etalonref06_other_s.out R d) (Eq.mp (by kernel_rfl) H)))

def szo_t : Tr :=
  (.ret ⟨[(.bin .maxI (.var 0) (.bin (.subW .i64) (.lit 0) (.var 0)))], [], []⟩ [])
theorem szo {x0 : Int} (r0 : (-9223372036854775808) ≤ x0 ∧ x0 ≤ 9223372036854775807) {R : Int → Prop}
  (H : R ((if (IntKind.i64.wrap (0 - x0) : Int) > x0 then IntKind.i64.wrap (0 - x0) else x0))) :
    ∃ v0 : Int, R v0 ∧ Spec Tryz.prog etalonbase_Size_s ⟨[x0], [], []⟩ [v0] [] [] :=
  Eq.mp (by kernel_rfl) (exV_of (K := fun d => app3 etalonbase_Size_s.out R d ∧ Spec Tryz.prog etalonbase_Size_s ⟨[x0], [], []⟩ d.1 d.2.1 d.2.2) (tree_at mixed names S1_ok (S := S1 Tryz.prog) (lf := 100000) (d := 60) etalonbase_Size_s szo_t { ivs := [(0, (-9223372036854775808), 9223372036854775807)], aivs := [] } ⟨[x0], [], []⟩ rfl (by kernel_rfl) (by kernel_rfl) (by kernel_rfl) ⟨(fc r0 fz), fz, fz, fz⟩ (R := fun d => app3 etalonbase_Size_s.out R d) (Eq.mp (by kernel_rfl) H)))

theorem ne_dec' {a : Int} (h : ((a : Int) == 0) = false) : a ≠ 0 := by simpa using h

theorem setting_p {x0 x1 x2 x3 : Int} {u : Bool} (hu : Spec Tryz.prog text_IsName_s ⟨[x0], [], []⟩ [] [u] []) (r1 : I64 x1) (r2 : I64 x2) (r3 : I64 x3) : Spec Tryz.prog meter_checkSetting_s ⟨[x0, x1, x2, x3], [], []⟩ [se u x1 x2 x3] [] [] := by

  obtain ⟨v, rfl, hs⟩ : ∃ v : Int, v = se u x1 x2 x3 ∧ Spec Tryz.prog meter_checkSetting_s ⟨[x0, x1, x2, x3], [], []⟩ [v] [] [] := by

    refine cst r1 r2 r3 (R := (· = se u x1 x2 x3)) ⟨u, hu, ?_⟩

    simp only [decide_eq_true_eq, decide_eq_false_iff_not]

    (repeat' (first | apply And.intro | intro _ | fail)) <;> (subst_vars; simp only [se]; (repeat' split) <;> first | omega | (simp_all; done) | contradiction)

  exact hs

theorem setting_r {x0 x1 x2 x3 : Int} {u : Bool} (hu : Spec Tryz.prog etalonbase_IsName_s ⟨[x0], [], []⟩ [] [u] []) (r1 : I64 x1) (r2 : I64 x2) (r3 : I64 x3) : Spec Tryz.prog etalonref06_settingErr_s ⟨[x0, x1, x2, x3], [], []⟩ [se u x1 x2 x3] [] [] := by

  obtain ⟨v, rfl, hs⟩ : ∃ v : Int, v = se u x1 x2 x3 ∧ Spec Tryz.prog etalonref06_settingErr_s ⟨[x0, x1, x2, x3], [], []⟩ [v] [] [] := by

    refine rst r1 r2 r3 (R := (· = se u x1 x2 x3)) ⟨u, hu, ?_⟩

    simp only [decide_eq_true_eq, decide_eq_false_iff_not]

    (repeat' (first | apply And.intro | intro _ | fail)) <;> (subst_vars; simp only [se]; (repeat' split) <;> first | omega | (simp_all; done) | contradiction)

  exact hs

/-- A turn whose Q is not 0. -/

def TnOk (p q r : Int) : Prop := (1 ≤ r ∧ r ≤ 1000) ∧ (0 - r < p ∧ p < r) ∧ (0 - r ≤ q ∧ q ≤ r) ∧ q ≠ 0

theorem tnOk {p q r : Int} (h : tnE p q r = 0) (hq : q ≠ 0) : TnOk p q r := by

  obtain ⟨a, b, c, d⟩ := tnE_ok h

  refine ⟨a, ?_, c, hq⟩

  have hq2 : 0 < q * q := by

    rcases Int.lt_or_gt_of_ne hq with h1 | h1

    · exact Int.mul_pos_of_neg_of_neg h1 h1

    · exact Int.mul_pos h1 h1

  constructor

  · rcases Int.lt_or_le (0 - r) p with g | g

    · exact g

    · have : p = 0 - r := by omega

      subst this

      have : (0 - r) * (0 - r) = r * r := by grind

      omega

  · rcases Int.lt_or_le p r with g | g

    · exact g

    · have : p = r := by omega

      subst this

      omega

/-- N by a ratio: what is divided, and by what. -/

def nN (p r x : Int) : Int := (p * 1048576 - x * r) * 1048576

def nD (p r x : Int) : Int := r * 1048576 - x * p

theorem nD_pos {p q r x : Int} (h : TnOk p q r) (hx : (-1048576) ≤ x ∧ x ≤ 1048576) : 1 ≤ nD p r x ∧ nD p r x ≤ 2097152000 := by

  obtain ⟨⟨a1, a2⟩, ⟨b1, b2⟩, _, _⟩ := h

  have e := mulB (n := p) (a := x) (N := r - 1) (A := 1048576) (by omega) (by omega)

  unfold nD

  rw [Int.mul_comm x p]

  have : (r - 1) * 1048576 = r * 1048576 - 1048576 := by omega

  omega

theorem nN_rng {p q r x : Int} (h : TnOk p q r) (hx : (-1048576) ≤ x ∧ x ≤ 1048576) : (-2200000000000000) ≤ nN p r x ∧ nN p r x ≤ 2200000000000000 := by

  obtain ⟨⟨a1, a2⟩, ⟨b1, b2⟩, _, _⟩ := h

  have e := mulB (n := x) (a := r) (N := 1048576) (A := 1000) (by omega) (by omega)

  unfold nN

  omega

theorem nN_in {p q r x : Int} (h : TnOk p q r) (hx : (-1048576) ≤ x ∧ x ≤ 1048576) : -1048576 * nD p r x ≤ nN p r x ∧ nN p r x ≤ 1048576 * nD p r x := by

  obtain ⟨⟨a1, a2⟩, ⟨b1, b2⟩, _, _⟩ := h

  have e1 : 0 ≤ (r - p) * (1048576 + x) := Int.mul_nonneg (by omega) (by omega)

  have e2 : 0 ≤ (r + p) * (1048576 - x) := Int.mul_nonneg (by omega) (by omega)

  have f1 : (r - p) * (1048576 + x) = r * 1048576 - x * p - (p * 1048576 - x * r) := by grind

  have f2 : (r + p) * (1048576 - x) = r * 1048576 - x * p + (p * 1048576 - x * r) := by grind

  unfold nN nD

  omega

theorem nN_cross {p q r x y : Int} (h : TnOk p q r) (hxy : x ≤ y) : nN p r y * nD p r x ≤ nN p r x * nD p r y := by

  obtain ⟨⟨a1, a2⟩, ⟨b1, b2⟩, _, _⟩ := h

  have e1 : 0 ≤ (r - p) * (r + p) := Int.mul_nonneg (by omega) (by omega)

  have e2 : 0 ≤ (r - p) * (r + p) * (y - x) := Int.mul_nonneg e1 (by omega)

  have e3 : nN p r x * nD p r y - nN p r y * nD p r x = ((r - p) * (r + p) * (y - x)) * 1099511627776 := by unfold nN nD; grind

  omega

theorem div_cross {a b c d : Int} (hb : 0 < b) (hd : 0 < d) (h : a * d ≤ c * b) : a / b ≤ c / d := by

  rw [Int.le_ediv_iff_mul_le hd]

  have e := Int.mul_ediv_self_le (x := a) (k := b) (by omega)

  have f : a / b * d * b ≤ c * b := by

    have : b * (a / b) * d ≤ a * d := Int.mul_le_mul_of_nonneg_right e (by omega)

    have g : a / b * d * b = b * (a / b) * d := by grind

    omega

  exact Int.le_of_mul_le_mul_right f hb

theorem cdiv_cross {a b c d : Int} (hb : 0 < b) (hd : 0 < d) (h : a * d ≤ c * b) : cdiv a b ≤ cdiv c d := by

  have := div_cross (a := -c) (b := d) (c := -a) (d := b) hd hb (by rw [Int.neg_mul, Int.neg_mul]; omega)

  unfold cdiv; omega

def nL (p r lo hi : Int) : Int := nN p r hi / nD p r hi

def nH (p r lo hi : Int) : Int := cdiv (nN p r lo) (nD p r lo)

theorem fl_ce {n d : Int} (hd : 0 < d) : n / d ≤ cdiv n d := by

  have h2 := cdiv_eq n hd

  split at h2 <;> omega

theorem n_rng {p q r lo hi : Int} (h : TnOk p q r) (hl : (-1048576) ≤ lo ∧ lo ≤ 1048576) (hh : (-1048576) ≤ hi ∧ hi ≤ 1048576) (hlh : lo ≤ hi) :

    ((-1048576) ≤ nL p r lo hi ∧ nL p r lo hi ≤ 1048576) ∧ ((-1048576) ≤ nH p r lo hi ∧ nH p r lo hi ≤ 1048576) ∧ nL p r lo hi ≤ nH p r lo hi := by

  have d1 := nD_pos h hl

  have d2 := nD_pos h hh

  have i1 := nN_in h hl

  have i2 := nN_in h hh

  have a1 : -1048576 ≤ nN p r hi / nD p r hi := by rw [Int.le_ediv_iff_mul_le (by omega)]; omega

  have a2 : nN p r hi / nD p r hi ≤ 1048576 := Int.ediv_le_of_le_mul (by omega) (by omega)

  have b1 : -nN p r lo / nD p r lo ≤ 1048576 := Int.ediv_le_of_le_mul (by omega) (by omega)

  have b2 : -1048576 ≤ -nN p r lo / nD p r lo := by rw [Int.le_ediv_iff_mul_le (by omega)]; omega

  have c := div_cross (a := nN p r hi) (b := nD p r hi) (c := nN p r lo) (d := nD p r lo) (by omega) (by omega) (nN_cross h hlh)

  have e := fl_ce (n := nN p r lo) (d := nD p r lo) (by omega)

  unfold nL nH

  refine ⟨⟨a1, a2⟩, ?_, by omega⟩

  unfold cdiv; omega

theorem cosine_p {p q r lo hi : Int} (h : TnOk p q r) (hl : (-1048576) ≤ lo ∧ lo ≤ 1048576) (hh : (-1048576) ≤ hi ∧ hi ≤ 1048576) (hlh : lo ≤ hi) :

    Spec Tryz.prog meter_cosine_s ⟨[p, q, r, lo, hi], [], []⟩ [nL p r lo hi, nH p r lo hi] [] [] := by

  have d1 := nD_pos h hl

  have d2 := nD_pos h hh

  have q1 := quotient_s (x := nN p r hi) (d := nD p r hi) (M := 2200000000000000) (by have := nN_rng h hh; omega) (by omega) (by omega) (by omega)

  have q2 := quotient_s (x := nN p r lo) (d := nD p r lo) (M := 2200000000000000) (by have := nN_rng h hl; omega) (by omega) (by omega) (by omega)

  have c1 := div_cross (a := nN p r hi) (b := nD p r hi) (c := nN p r lo) (d := nD p r lo) (by omega) (by omega) (nN_cross h hlh)

  have c2 := cdiv_cross (a := nN p r hi) (b := nD p r hi) (c := nN p r lo) (d := nD p r lo) (by omega) (by omega) (nN_cross h hlh)

  unfold qF qC at q1 q2

  rw [if_pos (by omega), if_pos (by omega)] at q1 q2

  obtain ⟨⟨a1, a2⟩, ⟨b1, b2⟩, ⟨b3, b4⟩, _⟩ := h

  obtain ⟨v, u, ⟨rfl, rfl⟩, hs⟩ := cow (x0 := p) (x1 := q) (x2 := r) (x3 := lo) (x4 := hi) (by omega) (by omega) (by omega) hl hh (R := fun v u => v = nL p r lo hi ∧ u = nH p r lo hi) ⟨_, _, q1, _, _, q2, by

    simp only [ite_min, ite_max]

    unfold nL nH

    omega⟩

  exact hs

theorem number_r {p q r lo hi : Int} (h : TnOk p q r) (hl : (-1048576) ≤ lo ∧ lo ≤ 1048576) (hh : (-1048576) ≤ hi ∧ hi ≤ 1048576) :

    Spec Tryz.prog etalonref06_numberOf_s ⟨[lo, hi, p, q, r], [], []⟩ [nL p r lo hi, nH p r lo hi] [] [] := by

  have d1 := nD_pos h hl

  have d2 := nD_pos h hh

  have e1 := nN_rng h hl

  have e2 := nN_rng h hh

  have f := floor_s (n := nN p r hi) (d := nD p r hi) (by omega) (by omega)

  have c := ceil_s (n := nN p r lo) (d := nD p r lo) (by omega) (by omega)

  obtain ⟨⟨a1, a2⟩, ⟨b1, b2⟩, ⟨b3, b4⟩, _⟩ := h

  obtain ⟨v, u, ⟨rfl, rfl⟩, hs⟩ := now hl hh (x2 := p) (x3 := q) (x4 := r) (by omega) (by omega) (by omega) (R := fun v u => v = nL p r lo hi ∧ u = nH p r lo hi) ⟨_, f, _, c, rfl, rfl⟩

  exact hs

/-- What C, or S, is divided from: four products, with the sign of Q. -/

def sg (q l : Int) : Int := if 0 ≤ q then l else 0 - l

def oD (q : Int) : Int := (if 0 ≤ q then q else 0 - q) * 1048576

def l4 (p q r y0 y1 n0 n1 : Int) : Int := min (min (min (sg q (y0 * nD p r n0)) (sg q (y0 * nD p r n1))) (sg q (y1 * nD p r n0))) (sg q (y1 * nD p r n1))

def h4 (p q r y0 y1 n0 n1 : Int) : Int := max (max (max (sg q (y0 * nD p r n0)) (sg q (y0 * nD p r n1))) (sg q (y1 * nD p r n0))) (sg q (y1 * nD p r n1))

def sL (p q r y0 y1 n0 n1 : Int) : Int := l4 p q r y0 y1 n0 n1 / oD q

def sH (p q r y0 y1 n0 n1 : Int) : Int := cdiv (h4 p q r y0 y1 n0 n1) (oD q)

theorem min_div {a b d : Int} (hd : 0 < d) : min (a / d) (b / d) = min a b / d := by

  rcases Int.le_total a b with h | h

  · have := Int.ediv_le_ediv hd h; rw [Int.min_eq_left h]; omega

  · have := Int.ediv_le_ediv hd h; rw [Int.min_eq_right h]; omega

theorem max_cdiv {a b d : Int} (hd : 0 < d) : max (cdiv a d) (cdiv b d) = cdiv (max a b) d := by

  have m : ∀ a b : Int, a ≤ b → cdiv a d ≤ cdiv b d := fun a b h => by

    have : -b / d ≤ -a / d := Int.ediv_le_ediv hd (by omega)

    unfold cdiv; omega

  rcases Int.le_total a b with h | h

  · have := m a b h; rw [Int.max_eq_right h]; omega

  · have := m b a h; rw [Int.max_eq_left h]; omega

theorem oD_pos {q : Int} (h : q ≠ 0) : 0 < oD q := by unfold oD; split <;> omega

theorem q_sg {q l : Int} (h : q ≠ 0) : qF l (q * 1048576) = sg q l / oD q ∧ qC l (q * 1048576) = cdiv (sg q l) (oD q) := by

  unfold qF qC sg oD

  by_cases h0 : 0 ≤ q

  · rw [if_pos (by omega), if_pos h0, if_pos h0, if_pos (by omega)]; exact ⟨rfl, rfl⟩

  · rw [if_neg (by omega), if_neg h0, if_neg h0, if_neg (by omega)]

    have : 0 - q * 1048576 = (0 - q) * 1048576 := by omega

    rw [this]; exact ⟨rfl, rfl⟩

theorem y_rng {p q r y n : Int} (h : TnOk p q r) (hy : (-1048576) ≤ y ∧ y ≤ 1048576) (hn : (-1048576) ≤ n ∧ n ≤ 1048576) : ((-2200000000000000) ≤ y * nD p r n ∧ y * nD p r n ≤ 2200000000000000) ∧ ((-2200000000000000) ≤ sg q (y * nD p r n) ∧ sg q (y * nD p r n) ≤ 2200000000000000) := by

  have d := nD_pos h hn

  have e := mulB (n := y) (a := nD p r n) (N := 1048576) (A := 2097152000) (by omega) (by omega)

  unfold sg

  split <;> omega

theorem s_rng {p q r y0 y1 n0 n1 : Int} (h : TnOk p q r) (h0 : (-1048576) ≤ y0 ∧ y0 ≤ 1048576) (h1 : (-1048576) ≤ y1 ∧ y1 ≤ 1048576) (g0 : (-1048576) ≤ n0 ∧ n0 ≤ 1048576) (g1 : (-1048576) ≤ n1 ∧ n1 ≤ 1048576) :

    I64 (sL p q r y0 y1 n0 n1) ∧ I64 (sH p q r y0 y1 n0 n1) ∧ sL p q r y0 y1 n0 n1 ≤ sH p q r y0 y1 n0 n1 ∧ ((-2200000000000000) ≤ l4 p q r y0 y1 n0 n1 ∧ l4 p q r y0 y1 n0 n1 ≤ 2200000000000000) ∧ ((-2200000000000000) ≤ h4 p q r y0 y1 n0 n1 ∧ h4 p q r y0 y1 n0 n1 ≤ 2200000000000000) := by

  have a := y_rng h h0 g0

  have b := y_rng h h0 g1

  have c := y_rng h h1 g0

  have d := y_rng h h1 g1

  have hp := oD_pos h.2.2.2

  have bl : (-2200000000000000) ≤ l4 p q r y0 y1 n0 n1 ∧ l4 p q r y0 y1 n0 n1 ≤ 2200000000000000 := by unfold l4; omega

  have bh : (-2200000000000000) ≤ h4 p q r y0 y1 n0 n1 ∧ h4 p q r y0 y1 n0 n1 ≤ 2200000000000000 := by unfold h4; omega

  have lh : l4 p q r y0 y1 n0 n1 ≤ h4 p q r y0 y1 n0 n1 := by unfold l4 h4; omega

  have e1 := ediv_abs' (n := l4 p q r y0 y1 n0 n1) (d := oD q) (M := 2200000000000000) hp (by omega) (by omega) (by omega)

  have e2 := ediv_abs' (n := -h4 p q r y0 y1 n0 n1) (d := oD q) (M := 2200000000000000) hp (by omega) (by omega) (by omega)

  have e3 := Int.ediv_le_ediv (a := l4 p q r y0 y1 n0 n1) (b := h4 p q r y0 y1 n0 n1) hp lh

  have e4 := fl_ce (n := h4 p q r y0 y1 n0 n1) hp

  unfold sL sH

  refine ⟨by unfold I64; omega, by unfold I64 cdiv; omega, by omega, bl, bh⟩

theorem sine_p {p q r y0 y1 n0 n1 : Int} (h : TnOk p q r) (h0 : (-1048576) ≤ y0 ∧ y0 ≤ 1048576) (h1 : (-1048576) ≤ y1 ∧ y1 ≤ 1048576) (g0 : (-1048576) ≤ n0 ∧ n0 ≤ 1048576) (g1 : (-1048576) ≤ n1 ∧ n1 ≤ 1048576) :

    Spec Tryz.prog meter_sine_s ⟨[p, q, r, y0, y1, n0, n1], [], []⟩ [sL p q r y0 y1 n0 n1, sH p q r y0 y1 n0 n1] [] [] := by

  have hp := oD_pos h.2.2.2

  have hq := h.2.2.2

  have qs : ∀ y n : Int, ((-1048576) ≤ y ∧ y ≤ 1048576) → ((-1048576) ≤ n ∧ n ≤ 1048576) → Spec Tryz.prog span_Quotient_s ⟨[y * nD p r n, q * 1048576], [], []⟩ [sg q (y * nD p r n) / oD q, cdiv (sg q (y * nD p r n)) (oD q)] [] [] := fun y n hy hn => by

    have a := y_rng h hy hn

    have := quotient_s (x := y * nD p r n) (d := q * 1048576) (M := 2200000000000000) (by omega) (by omega) (by have := h.1; have := h.2.2.1; omega) (by omega)

    rwa [(q_sg hq).1, (q_sg hq).2] at this

  have k := h

  obtain ⟨⟨a1, a2⟩, ⟨b1, b2⟩, ⟨b3, b4⟩, _⟩ := k

  obtain ⟨v, u, ⟨rfl, rfl⟩, hs⟩ := siw (x0 := p) (x1 := q) (x2 := r) (by omega) (by omega) (by omega) h0 h1 g0 g1 (R := fun v u => v = sL p q r y0 y1 n0 n1 ∧ u = sH p q r y0 y1 n0 n1) ⟨_, _, qs y0 n0 h0 g0, _, _, qs y0 n1 h0 g1, _, _, qs y1 n0 h1 g0, _, _, qs y1 n1 h1 g1, by

    simp only [ite_min, ite_max, min_div hp, max_cdiv hp]

    exact ⟨rfl, rfl⟩⟩

  exact hs

theorem size_o {q : Int} (h : (-1000) ≤ q ∧ q ≤ 1000) : Spec Tryz.prog etalonbase_Size_s ⟨[q], [], []⟩ [if 0 ≤ q then q else 0 - q] [] [] := by

  obtain ⟨v, rfl, hs⟩ := szo (x0 := q) (by omega) (R := (· = if 0 ≤ q then q else 0 - q)) (by

    have w : IntKind.i64.wrap (0 - q) = 0 - q := by rw [IntKind.wrap_i64]; omega

    rw [w]; split <;> split <;> omega)

  exact hs

theorem min_self' (a : Int) : min a a = a := by omega

theorem max_self' (a : Int) : max a a = a := by omega

theorem other_r {p q r y0 y1 n0 n1 : Int} (h : TnOk p q r) (h0 : (-1048576) ≤ y0 ∧ y0 ≤ 1048576) (h1 : (-1048576) ≤ y1 ∧ y1 ≤ 1048576) (g0 : (-1048576) ≤ n0 ∧ n0 ≤ 1048576) (g1 : (-1048576) ≤ n1 ∧ n1 ≤ 1048576) :

    Spec Tryz.prog etalonref06_other_s ⟨[y0, y1, n0, n1, p, q, r], [], []⟩ [cutL (sL p q r y0 y1 n0 n1) (sH p q r y0 y1 n0 n1), cutH (sL p q r y0 y1 n0 n1) (sH p q r y0 y1 n0 n1), cutE (sL p q r y0 y1 n0 n1) (sH p q r y0 y1 n0 n1)] [] [] := by

  obtain ⟨i1, i2, _, bl, bh⟩ := s_rng h h0 h1 g0 g1

  have hp := oD_pos h.2.2.2

  have hc := cut_r i1 i2

  have k := h

  obtain ⟨⟨a1, a2⟩, ⟨b1, b2⟩, ⟨b3, b4⟩, _⟩ := k

  have hz := size_o (q := q) (by omega)

  have hf := floor_s (n := l4 p q r y0 y1 n0 n1) (d := oD q) (by omega) (by unfold oD at hp ⊢; split <;> omega)

  have hg := ceil_s (n := h4 p q r y0 y1 n0 n1) (d := oD q) (by omega) (by unfold oD at hp ⊢; split <;> omega)

  obtain ⟨v0, v1, v2, ⟨rfl, rfl, rfl⟩, hs⟩ := otw h0 h1 g0 g1 (x4 := p) (x5 := q) (x6 := r) (by omega) (by omega) (by omega) (R := fun a b c => a = cutL (sL p q r y0 y1 n0 n1) (sH p q r y0 y1 n0 n1) ∧ b = cutH (sL p q r y0 y1 n0 n1) (sH p q r y0 y1 n0 n1) ∧ c = cutE (sL p q r y0 y1 n0 n1) (sH p q r y0 y1 n0 n1)) (by

    simp only [ite_min, ite_max, min_self', max_self', decide_eq_true_eq, decide_eq_false_iff_not]

    refine ⟨fun hq => ⟨_, hz, by split <;> omega, ?_⟩, fun hq => ⟨_, hz, by split <;> omega, ?_⟩⟩

    · simp only [l4, h4, sg, oD, nD, if_pos hq] at hf hg

      simp only [if_pos hq]

      refine ⟨_, hf, _, hg, _, _, _, ?_, rfl, rfl, rfl⟩

      have e1 : sL p q r y0 y1 n0 n1 = l4 p q r y0 y1 n0 n1 / oD q := rfl

      have e2 : sH p q r y0 y1 n0 n1 = cdiv (h4 p q r y0 y1 n0 n1) (oD q) := rfl

      simp only [l4, h4, sg, oD, nD, if_pos hq] at e1 e2

      rw [← e1, ← e2]

      exact hc

    · simp only [l4, h4, sg, oD, nD, if_neg hq] at hf hg

      simp only [if_neg hq]

      refine ⟨_, hf, _, hg, _, _, _, ?_, rfl, rfl, rfl⟩

      have e1 : sL p q r y0 y1 n0 n1 = l4 p q r y0 y1 n0 n1 / oD q := rfl

      have e2 : sH p q r y0 y1 n0 n1 = cdiv (h4 p q r y0 y1 n0 n1) (oD q) := rfl

      simp only [l4, h4, sg, oD, nD, if_neg hq] at e1 e2

      rw [← e1, ← e2]

      exact hc)

  exact hs

end Go.Proofs.YtpjcjdhidfnbbaaGreat.Ev
