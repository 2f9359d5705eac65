/- MeterReads. -/
import Derived.Test.YtpjcjdhidfnbbaaGreatFrn
import Derived.Test.YtpjcjdhidfnbbaaGreatFaw6
namespace Go.Proofs.YtpjcjdhidfnbbaaGreat.Ev
set_option linter.unusedSimpArgs false
open Go Go.RowKit
set_option linter.unusedVariables false
set_option maxRecDepth 100000
def meter_ReadingOf_s : Sig := ⟨23, ⟨19, 0, 0⟩, ⟨11, 0, 0⟩, [(.agg [(.strn (.var 0)), (.int .i64 (.var 1)), (.int .i64 (.var 2)), (.int .i64 (.var 3)), (.int .i64 (.var 4)), (.int .i64 (.var 5)), (.int .i64 (.var 6)), (.int .i64 (.var 7)), (.int .i64 (.var 8)), (.int .i64 (.var 9)), (.int .i64 (.var 10)), (.int .i64 (.var 11)), (.int .i64 (.var 12)), (.int .i64 (.var 13)), (.int .i64 (.var 14)), (.int .i64 (.var 15)), (.int .i64 (.var 16)), (.int .i64 (.var 17)), (.int .i64 (.var 18))])], [], (.tuple [(.agg [(.strn (.var 19)), (.int .i64 (.var 20)), (.int .i64 (.var 21)), (.int .i64 (.var 22)), (.int .i64 (.var 23)), (.int .i64 (.var 24)), (.int .i64 (.var 25)), (.int .i64 (.var 26)), (.int .i64 (.var 27)), (.int .i64 (.var 28))]), (.int .i64 (.var 29))]), []⟩
def etalonref06_ReadingOf_s : Sig := ⟨24, ⟨19, 0, 0⟩, ⟨11, 0, 0⟩, [(.agg [(.strn (.var 0)), (.int .i64 (.var 1)), (.int .i64 (.var 2)), (.int .i64 (.var 3)), (.int .i64 (.var 4)), (.int .i64 (.var 5)), (.int .i64 (.var 6)), (.int .i64 (.var 7)), (.int .i64 (.var 8)), (.int .i64 (.var 9)), (.int .i64 (.var 10)), (.int .i64 (.var 11)), (.int .i64 (.var 12)), (.int .i64 (.var 13)), (.int .i64 (.var 14)), (.int .i64 (.var 15)), (.int .i64 (.var 16)), (.int .i64 (.var 17)), (.int .i64 (.var 18))])], [], (.tuple [(.agg [(.strn (.var 19)), (.int .i64 (.var 20)), (.int .i64 (.var 21)), (.int .i64 (.var 22)), (.int .i64 (.var 23)), (.int .i64 (.var 24)), (.int .i64 (.var 25)), (.int .i64 (.var 26)), (.int .i64 (.var 27)), (.int .i64 (.var 28))]), (.int .i64 (.var 29))]), []⟩
def etalonlaw06_MeterReads_s : Sig := ⟨6, ⟨19, 0, 0⟩, ⟨0, 1, 0⟩, [(.agg [(.strn (.var 0)), (.int .i64 (.var 1)), (.int .i64 (.var 2)), (.int .i64 (.var 3)), (.int .i64 (.var 4)), (.int .i64 (.var 5)), (.int .i64 (.var 6)), (.int .i64 (.var 7)), (.int .i64 (.var 8)), (.int .i64 (.var 9)), (.int .i64 (.var 10)), (.int .i64 (.var 11)), (.int .i64 (.var 12)), (.int .i64 (.var 13)), (.int .i64 (.var 14)), (.int .i64 (.var 15)), (.int .i64 (.var 16)), (.int .i64 (.var 17)), (.int .i64 (.var 18))])], [], (.bool (.var 0)), []⟩

def rdw_t : Tr :=
  (.call meter_checkSetting_s ⟨[(.var 0), (.var 1), (.var 2), (.var 3)], [], []⟩ ⟨[(.var 0), (.var 1), (.var 2), (.var 3), (.var 19)], [], []⟩ ⟨57, [(.strn (.var 0)), (.int .i64 (.var 1)), (.agg [(.int .i64 (.var 2)), (.int .i64 (.var 3))])], [], [none, none], (.int .i64 (.var 19)), []⟩
  (.call meter_CheckSums_s ⟨[(.var 4), (.var 5), (.var 6), (.var 7), (.var 8), (.var 9)], [], []⟩ ⟨[(.var 4), (.var 5), (.var 6), (.var 7), (.var 8), (.var 9), (.var 20)], [], []⟩ ⟨11, [(.agg [(.int .i64 (.var 4)), (.int .i64 (.var 5)), (.int .i64 (.var 6)), (.int .i64 (.var 7)), (.int .i64 (.var 8)), (.int .i64 (.var 9))])], [], [none, none], (.int .i64 (.var 20)), []⟩
  (.call meter_CheckSums_s ⟨[(.var 10), (.var 11), (.var 12), (.var 13), (.var 14), (.var 15)], [], []⟩ ⟨[(.var 10), (.var 11), (.var 12), (.var 13), (.var 14), (.var 15), (.var 21)], [], []⟩ ⟨11, [(.agg [(.int .i64 (.var 10)), (.int .i64 (.var 11)), (.int .i64 (.var 12)), (.int .i64 (.var 13)), (.int .i64 (.var 14)), (.int .i64 (.var 15))])], [], [none, none], (.int .i64 (.var 21)), []⟩
  (.call polar_CheckTurn_s ⟨[(.var 16), (.var 17), (.var 18)], [], []⟩ ⟨[(.var 16), (.var 17), (.var 18), (.var 22)], [], []⟩ ⟨48, [(.agg [(.int .i64 (.var 16)), (.int .i64 (.var 17)), (.int .i64 (.var 18))])], [], [none, none], (.int .i64 (.var 22)), []⟩
  (.ite (.icmp .eql (.var 19) (.lit 0))
  (.ite (.icmp .eql (.var 20) (.lit 0))
   (.ite (.icmp .eql (.var 21) (.lit 0))
    (.ite (.icmp .eql (.var 22) (.lit 0))
     (.ite (.icmp .eql (.var 17) (.lit 0))
      (.ret ⟨[(.lit 0), (.lit 0), (.lit 0), (.lit 0), (.lit 0), (.lit 0), (.lit 0), (.lit 0), (.lit 0), (.lit 0), (.lit 9)], [], []⟩ [])
      (.call meter_Ratios_s ⟨[(.var 4), (.var 5), (.var 6), (.var 7), (.var 8), (.var 9)], [], []⟩ ⟨[(.var 4), (.var 5), (.var 6), (.var 7), (.var 8), (.var 9), (.var 23), (.var 24), (.var 25), (.var 26), (.var 27)], [], []⟩ ⟨58, [(.agg [(.int .i64 (.var 4)), (.int .i64 (.var 5)), (.int .i64 (.var 6)), (.int .i64 (.var 7)), (.int .i64 (.var 8)), (.int .i64 (.var 9))])], [], [none, none, none], (.tuple [(.agg [(.int .i64 (.var 23)), (.int .i64 (.var 24)), (.int .i64 (.var 25)), (.int .i64 (.var 26))]), (.int .i64 (.var 27))]), []⟩
       (.call meter_Ratios_s ⟨[(.var 10), (.var 11), (.var 12), (.var 13), (.var 14), (.var 15)], [], []⟩ ⟨[(.var 10), (.var 11), (.var 12), (.var 13), (.var 14), (.var 15), (.var 28), (.var 29), (.var 30), (.var 31), (.var 32)], [], []⟩ ⟨58, [(.agg [(.int .i64 (.var 10)), (.int .i64 (.var 11)), (.int .i64 (.var 12)), (.int .i64 (.var 13)), (.int .i64 (.var 14)), (.int .i64 (.var 15))])], [], [none, none, none, none], (.tuple [(.agg [(.int .i64 (.var 28)), (.int .i64 (.var 29)), (.int .i64 (.var 30)), (.int .i64 (.var 31))]), (.int .i64 (.var 32))]), []⟩
       (.ite (.icmp .eql (.var 27) (.lit 0))
       (.ite (.icmp .eql (.var 32) (.lit 0))
        (.call meter_cosine_s ⟨[(.var 16), (.var 17), (.var 18), (.var 23), (.var 24)], [], []⟩ ⟨[(.var 16), (.var 17), (.var 18), (.var 23), (.var 24), (.var 33), (.var 34)], [], []⟩ ⟨60, [(.agg [(.int .i64 (.var 16)), (.int .i64 (.var 17)), (.int .i64 (.var 18))]), (.agg [(.int .i64 (.var 23)), (.int .i64 (.var 24))])], [], [none, none, none, none, none, none], (.agg [(.int .i64 (.var 33)), (.int .i64 (.var 34))]), []⟩
         (.call meter_cosine_s ⟨[(.var 16), (.var 17), (.var 18), (.var 28), (.var 29)], [], []⟩ ⟨[(.var 16), (.var 17), (.var 18), (.var 28), (.var 29), (.var 35), (.var 36)], [], []⟩ ⟨60, [(.agg [(.int .i64 (.var 16)), (.int .i64 (.var 17)), (.int .i64 (.var 18))]), (.agg [(.int .i64 (.var 28)), (.int .i64 (.var 29))])], [], [none, none, none, none, none, none], (.agg [(.int .i64 (.var 35)), (.int .i64 (.var 36))]), []⟩
         (.ite (.icmp .leq (.bin .maxI (.var 33) (.var 35)) (.bin .minI (.var 34) (.var 36)))
         (.call meter_sine_s ⟨[(.var 16), (.var 17), (.var 18), (.var 25), (.var 26), (.bin .maxI (.var 33) (.var 35)), (.bin .minI (.var 34) (.var 36))], [], []⟩ ⟨[(.var 16), (.var 17), (.var 18), (.var 25), (.var 26), (.bin .maxI (.var 33) (.var 35)), (.bin .minI (.var 34) (.var 36)), (.var 37), (.var 38)], [], []⟩ ⟨62, [(.agg [(.int .i64 (.var 16)), (.int .i64 (.var 17)), (.int .i64 (.var 18))]), (.agg [(.int .i64 (.var 25)), (.int .i64 (.var 26))]), (.agg [(.int .i64 (.bin .maxI (.var 33) (.var 35))), (.int .i64 (.bin .minI (.var 34) (.var 36)))])], [], [none, none, none, none, none, none, none, none], (.agg [(.int .i64 (.var 37)), (.int .i64 (.var 38))]), []⟩
          (.call meter_cut_s ⟨[(.var 37), (.var 38)], [], []⟩ ⟨[(.var 37), (.var 38), (.var 39), (.var 40), (.var 41)], [], []⟩ ⟨61, [(.agg [(.int .i64 (.var 37)), (.int .i64 (.var 38))])], [], [none, none, none, none, none, none, none, none], (.tuple [(.agg [(.int .i64 (.var 39)), (.int .i64 (.var 40))]), (.int .i64 (.var 41))]), []⟩
          (.call meter_sine_s ⟨[(.var 16), (.var 17), (.var 18), (.var 30), (.var 31), (.bin .maxI (.var 33) (.var 35)), (.bin .minI (.var 34) (.var 36))], [], []⟩ ⟨[(.var 16), (.var 17), (.var 18), (.var 30), (.var 31), (.bin .maxI (.var 33) (.var 35)), (.bin .minI (.var 34) (.var 36)), (.var 42), (.var 43)], [], []⟩ ⟨62, [(.agg [(.int .i64 (.var 16)), (.int .i64 (.var 17)), (.int .i64 (.var 18))]), (.agg [(.int .i64 (.var 30)), (.int .i64 (.var 31))]), (.agg [(.int .i64 (.bin .maxI (.var 33) (.var 35))), (.int .i64 (.bin .minI (.var 34) (.var 36)))])], [], [none, none, none, none, none, none, none, none, none], (.agg [(.int .i64 (.var 42)), (.int .i64 (.var 43))]), []⟩
          (.call meter_cut_s ⟨[(.var 42), (.var 43)], [], []⟩ ⟨[(.var 42), (.var 43), (.var 44), (.var 45), (.var 46)], [], []⟩ ⟨61, [(.agg [(.int .i64 (.var 42)), (.int .i64 (.var 43))])], [], [none, none, none, none, none, none, none, none, none], (.tuple [(.agg [(.int .i64 (.var 44)), (.int .i64 (.var 45))]), (.int .i64 (.var 46))]), []⟩
          (.ite (.icmp .eql (.var 41) (.lit 0))
          (.ite (.icmp .eql (.var 46) (.lit 0))
           (.ret ⟨[(.var 0), (.var 1), (.var 2), (.var 3), (.bin .maxI (.var 33) (.var 35)), (.bin .minI (.var 34) (.var 36)), (.var 39), (.var 40), (.var 44), (.var 45), (.lit 0)], [], []⟩ [])
           (.ret ⟨[(.lit 0), (.lit 0), (.lit 0), (.lit 0), (.lit 0), (.lit 0), (.lit 0), (.lit 0), (.lit 0), (.lit 0), (.var 46)], [], []⟩ []))
          (.ret ⟨[(.lit 0), (.lit 0), (.lit 0), (.lit 0), (.lit 0), (.lit 0), (.lit 0), (.lit 0), (.lit 0), (.lit 0), (.var 41)], [], []⟩ []))))))
         (.ret ⟨[(.lit 0), (.lit 0), (.lit 0), (.lit 0), (.lit 0), (.lit 0), (.lit 0), (.lit 0), (.lit 0), (.lit 0), (.lit 14)], [], []⟩ []))))
        (.ret ⟨[(.lit 0), (.lit 0), (.lit 0), (.lit 0), (.lit 0), (.lit 0), (.lit 0), (.lit 0), (.lit 0), (.lit 0), (.var 32)], [], []⟩ []))
       (.ret ⟨[(.lit 0), (.lit 0), (.lit 0), (.lit 0), (.lit 0), (.lit 0), (.lit 0), (.lit 0), (.lit 0), (.lit 0), (.var 27)], [], []⟩ [])))))
     (.ret ⟨[(.lit 0), (.lit 0), (.lit 0), (.lit 0), (.lit 0), (.lit 0), (.lit 0), (.lit 0), (.lit 0), (.lit 0), (.var 22)], [], []⟩ []))
    (.ret ⟨[(.lit 0), (.lit 0), (.lit 0), (.lit 0), (.lit 0), (.lit 0), (.lit 0), (.lit 0), (.lit 0), (.lit 0), (.var 21)], [], []⟩ []))
   (.ret ⟨[(.lit 0), (.lit 0), (.lit 0), (.lit 0), (.lit 0), (.lit 0), (.lit 0), (.lit 0), (.lit 0), (.lit 0), (.var 20)], [], []⟩ []))
  (.ret ⟨[(.lit 0), (.lit 0), (.lit 0), (.lit 0), (.lit 0), (.lit 0), (.lit 0), (.lit 0), (.lit 0), (.lit 0), (.var 19)], [], []⟩ []))))))
theorem rdw {x0 x1 x2 x3 x4 x5 x6 x7 x8 x9 x10 x11 x12 x13 x14 x15 x16 x17 x18 : Int} (r1 : (-9223372036854775808) ≤ x1 ∧ x1 ≤ 9223372036854775807) (r2 : (-9223372036854775808) ≤ x2 ∧ x2 ≤ 9223372036854775807) (r3 : (-9223372036854775808) ≤ x3 ∧ x3 ≤ 9223372036854775807) (r4 : (-9223372036854775808) ≤ x4 ∧ x4 ≤ 9223372036854775807) (r5 : (-9223372036854775808) ≤ x5 ∧ x5 ≤ 9223372036854775807) (r6 : (-9223372036854775808) ≤ x6 ∧ x6 ≤ 9223372036854775807) (r7 : (-9223372036854775808) ≤ x7 ∧ x7 ≤ 9223372036854775807) (r8 : (-9223372036854775808) ≤ x8 ∧ x8 ≤ 9223372036854775807) (r9 : (-9223372036854775808) ≤ x9 ∧ x9 ≤ 9223372036854775807) (r10 : (-9223372036854775808) ≤ x10 ∧ x10 ≤ 9223372036854775807) (r11 : (-9223372036854775808) ≤ x11 ∧ x11 ≤ 9223372036854775807) (r12 : (-9223372036854775808) ≤ x12 ∧ x12 ≤ 9223372036854775807) (r13 : (-9223372036854775808) ≤ x13 ∧ x13 ≤ 9223372036854775807) (r14 : (-9223372036854775808) ≤ x14 ∧ x14 ≤ 9223372036854775807) (r15 : (-9223372036854775808) ≤ x15 ∧ x15 ≤ 9223372036854775807) (r16 : (-9223372036854775808) ≤ x16 ∧ x16 ≤ 9223372036854775807) (r17 : (-9223372036854775808) ≤ x17 ∧ x17 ≤ 9223372036854775807) (r18 : (-9223372036854775808) ≤ x18 ∧ x18 ≤ 9223372036854775807) {R : Int → Int → Int → Int → Int → Int → Int → Int → Int → Int → Int → Prop}
  (H : (∃ v19 : Int, Spec Tryz.prog meter_checkSetting_s ⟨[x0, x1, x2, x3], [], []⟩ [v19] [] [] ∧
   (∃ v20 : Int, Spec Tryz.prog meter_CheckSums_s ⟨[x4, x5, x6, x7, x8, x9], [], []⟩ [v20] [] [] ∧
   (∃ v21 : Int, Spec Tryz.prog meter_CheckSums_s ⟨[x10, x11, x12, x13, x14, x15], [], []⟩ [v21] [] [] ∧
   (∃ v22 : Int, Spec Tryz.prog polar_CheckTurn_s ⟨[x16, x17, x18], [], []⟩ [v22] [] [] ∧
   ((((v19 : Int) == 0) = true → ((((v20 : Int) == 0) = true → ((((v21 : Int) == 0) = true → ((((v22 : Int) == 0) = true → ((((x17 : Int) == 0) = true → R (0) (0) (0) (0) (0) (0) (0) (0) (0) (0) (9)) ∧
       (((x17 : Int) == 0) = false → (∃ v23 : Int, ∃ v24 : Int, ∃ v25 : Int, ∃ v26 : Int, ∃ v27 : Int, Spec Tryz.prog meter_Ratios_s ⟨[x4, x5, x6, x7, x8, x9], [], []⟩ [v23, v24, v25, v26, v27] [] [] ∧
        (∃ v28 : Int, ∃ v29 : Int, ∃ v30 : Int, ∃ v31 : Int, ∃ v32 : Int, Spec Tryz.prog meter_Ratios_s ⟨[x10, x11, x12, x13, x14, x15], [], []⟩ [v28, v29, v30, v31, v32] [] [] ∧
        ((((v27 : Int) == 0) = true → ((((v32 : Int) == 0) = true → (∃ v33 : Int, ∃ v34 : Int, Spec Tryz.prog meter_cosine_s ⟨[x16, x17, x18, v23, v24], [], []⟩ [v33, v34] [] [] ∧
          (∃ v35 : Int, ∃ v36 : Int, Spec Tryz.prog meter_cosine_s ⟨[x16, x17, x18, v28, v29], [], []⟩ [v35, v36] [] [] ∧
          ((decide (((if (v35 : Int) > v33 then v35 else v33) : Int) ≤ (if (v36 : Int) < v34 then v36 else v34)) = true → (∃ v37 : Int, ∃ v38 : Int, Spec Tryz.prog meter_sine_s ⟨[x16, x17, x18, v25, v26, (if (v35 : Int) > v33 then v35 else v33), (if (v36 : Int) < v34 then v36 else v34)], [], []⟩ [v37, v38] [] [] ∧
           (∃ v39 : Int, ∃ v40 : Int, ∃ v41 : Int, Spec Tryz.prog meter_cut_s ⟨[v37, v38], [], []⟩ [v39, v40, v41] [] [] ∧
           (∃ v42 : Int, ∃ v43 : Int, Spec Tryz.prog meter_sine_s ⟨[x16, x17, x18, v30, v31, (if (v35 : Int) > v33 then v35 else v33), (if (v36 : Int) < v34 then v36 else v34)], [], []⟩ [v42, v43] [] [] ∧
           (∃ v44 : Int, ∃ v45 : Int, ∃ v46 : Int, Spec Tryz.prog meter_cut_s ⟨[v42, v43], [], []⟩ [v44, v45, v46] [] [] ∧
           ((((v41 : Int) == 0) = true → ((((v46 : Int) == 0) = true → R (x0) (x1) (x2) (x3) ((if (v35 : Int) > v33 then v35 else v33)) ((if (v36 : Int) < v34 then v36 else v34)) (v39) (v40) (v44) (v45) (0)) ∧
            (((v46 : Int) == 0) = false → R (0) (0) (0) (0) (0) (0) (0) (0) (0) (0) (v46)))) ∧
           (((v41 : Int) == 0) = false → R (0) (0) (0) (0) (0) (0) (0) (0) (0) (0) (v41)))))))) ∧
          (decide (((if (v35 : Int) > v33 then v35 else v33) : Int) ≤ (if (v36 : Int) < v34 then v36 else v34)) = false → R (0) (0) (0) (0) (0) (0) (0) (0) (0) (0) (14)))))) ∧
         (((v32 : Int) == 0) = false → R (0) (0) (0) (0) (0) (0) (0) (0) (0) (0) (v32)))) ∧
        (((v27 : Int) == 0) = false → R (0) (0) (0) (0) (0) (0) (0) (0) (0) (0) (v27)))))))) ∧
      (((v22 : Int) == 0) = false → R (0) (0) (0) (0) (0) (0) (0) (0) (0) (0) (v22)))) ∧
     (((v21 : Int) == 0) = false → R (0) (0) (0) (0) (0) (0) (0) (0) (0) (0) (v21)))) ∧
    (((v20 : Int) == 0) = false → R (0) (0) (0) (0) (0) (0) (0) (0) (0) (0) (v20)))) ∧
   (((v19 : Int) == 0) = false → R (0) (0) (0) (0) (0) (0) (0) (0) (0) (0) (v19)))))))) :
    ∃ v0 : Int, ∃ v1 : Int, ∃ v2 : Int, ∃ v3 : Int, ∃ v4 : Int, ∃ v5 : Int, ∃ v6 : Int, ∃ v7 : Int, ∃ v8 : Int, ∃ v9 : Int, ∃ v10 : Int, R v0 v1 v2 v3 v4 v5 v6 v7 v8 v9 v10 ∧ Spec Tryz.prog meter_ReadingOf_s ⟨[x0, x1, x2, x3, x4, x5, x6, x7, x8, x9, x10, x11, x12, x13, x14, x15, x16, x17, x18], [], []⟩ [v0, v1, v2, v3, v4, v5, v6, v7, v8, v9, v10] [] [] :=
  Eq.mp (by kernel_rfl) (exV_of (K := fun d => app3 meter_ReadingOf_s.out R d ∧ Spec Tryz.prog meter_ReadingOf_s ⟨[x0, x1, x2, x3, x4, x5, x6, x7, x8, x9, x10, x11, x12, x13, x14, x15, x16, x17, x18], [], []⟩ d.1 d.2.1 d.2.2) (tree_at mixed names S1_ok (S := S1 Tryz.prog) (lf := 100000) (d := 60) meter_ReadingOf_s rdw_t { ivs := [(1, (-9223372036854775808), 9223372036854775807), (2, (-9223372036854775808), 9223372036854775807), (3, (-9223372036854775808), 9223372036854775807), (4, (-9223372036854775808), 9223372036854775807), (5, (-9223372036854775808), 9223372036854775807), (6, (-9223372036854775808), 9223372036854775807), (7, (-9223372036854775808), 9223372036854775807), (8, (-9223372036854775808), 9223372036854775807), (9, (-9223372036854775808), 9223372036854775807), (10, (-9223372036854775808), 9223372036854775807), (11, (-9223372036854775808), 9223372036854775807), (12, (-9223372036854775808), 9223372036854775807), (13, (-9223372036854775808), 9223372036854775807), (14, (-9223372036854775808), 9223372036854775807), (15, (-9223372036854775808), 9223372036854775807), (16, (-9223372036854775808), 9223372036854775807), (17, (-9223372036854775808), 9223372036854775807), (18, (-9223372036854775808), 9223372036854775807)], aivs := [] } ⟨[x0, x1, x2, x3, x4, x5, x6, x7, x8, x9, x10, x11, x12, x13, x14, x15, x16, x17, x18], [], []⟩ rfl (by kernel_rfl) (by kernel_rfl) (by kernel_rfl) ⟨(fc r1 (fc r2 (fc r3 (fc r4 (fc r5 (fc r6 (fc r7 (fc r8 (fc r9 (fc r10 (fc r11 (fc r12 (fc r13 (fc r14 (fc r15 (fc r16 (fc r17 (fc r18 fz)))))))))))))))))), fz, fz, fz⟩ (R := fun d => app3 meter_ReadingOf_s.out R d) (Eq.mp (by kernel_rfl) H)))

def rrw_t : Tr :=
  (.call etalonref06_settingErr_s ⟨[(.var 0), (.var 1), (.var 2), (.var 3)], [], []⟩ ⟨[(.var 0), (.var 1), (.var 2), (.var 3), (.var 19)], [], []⟩ ⟨63, [(.strn (.var 0)), (.int .i64 (.var 1)), (.agg [(.int .i64 (.var 2)), (.int .i64 (.var 3))])], [], [none, none, none], (.int .i64 (.var 19)), []⟩
  (.ite (.icmp .eql (.var 19) (.lit 0))
  (.call etalonref06_CheckSums_s ⟨[(.var 4), (.var 5), (.var 6), (.var 7), (.var 8), (.var 9)], [], []⟩ ⟨[(.var 4), (.var 5), (.var 6), (.var 7), (.var 8), (.var 9), (.var 20)], [], []⟩ ⟨12, [(.agg [(.int .i64 (.var 4)), (.int .i64 (.var 5)), (.int .i64 (.var 6)), (.int .i64 (.var 7)), (.int .i64 (.var 8)), (.int .i64 (.var 9))])], [], [none, none, none], (.int .i64 (.var 20)), []⟩
   (.ite (.icmp .eql (.var 20) (.lit 0))
   (.call etalonref06_CheckSums_s ⟨[(.var 10), (.var 11), (.var 12), (.var 13), (.var 14), (.var 15)], [], []⟩ ⟨[(.var 10), (.var 11), (.var 12), (.var 13), (.var 14), (.var 15), (.var 21)], [], []⟩ ⟨12, [(.agg [(.int .i64 (.var 10)), (.int .i64 (.var 11)), (.int .i64 (.var 12)), (.int .i64 (.var 13)), (.int .i64 (.var 14)), (.int .i64 (.var 15))])], [], [none, none, none], (.int .i64 (.var 21)), []⟩
    (.ite (.icmp .eql (.var 21) (.lit 0))
    (.call etalonref05_CheckTurn_s ⟨[(.var 16), (.var 17), (.var 18)], [], []⟩ ⟨[(.var 16), (.var 17), (.var 18), (.var 22)], [], []⟩ ⟨50, [(.agg [(.int .i64 (.var 16)), (.int .i64 (.var 17)), (.int .i64 (.var 18))])], [], [none, none, none], (.int .i64 (.var 22)), []⟩
     (.ite (.icmp .eql (.var 22) (.lit 0))
     (.ite (.icmp .eql (.var 17) (.lit 0))
      (.ret ⟨[(.lit 0), (.lit 0), (.lit 0), (.lit 0), (.lit 0), (.lit 0), (.lit 0), (.lit 0), (.lit 0), (.lit 0), (.lit 9)], [], []⟩ [])
      (.call etalonref06_Ratios_s ⟨[(.var 4), (.var 5), (.var 6), (.var 7), (.var 8), (.var 9)], [], []⟩ ⟨[(.var 4), (.var 5), (.var 6), (.var 7), (.var 8), (.var 9), (.var 23), (.var 24), (.var 25), (.var 26), (.var 27)], [], []⟩ ⟨64, [(.agg [(.int .i64 (.var 4)), (.int .i64 (.var 5)), (.int .i64 (.var 6)), (.int .i64 (.var 7)), (.int .i64 (.var 8)), (.int .i64 (.var 9))])], [], [none, none, none], (.tuple [(.agg [(.int .i64 (.var 23)), (.int .i64 (.var 24)), (.int .i64 (.var 25)), (.int .i64 (.var 26))]), (.int .i64 (.var 27))]), []⟩
       (.ite (.icmp .eql (.var 27) (.lit 0))
       (.call etalonref06_Ratios_s ⟨[(.var 10), (.var 11), (.var 12), (.var 13), (.var 14), (.var 15)], [], []⟩ ⟨[(.var 10), (.var 11), (.var 12), (.var 13), (.var 14), (.var 15), (.var 28), (.var 29), (.var 30), (.var 31), (.var 32)], [], []⟩ ⟨64, [(.agg [(.int .i64 (.var 10)), (.int .i64 (.var 11)), (.int .i64 (.var 12)), (.int .i64 (.var 13)), (.int .i64 (.var 14)), (.int .i64 (.var 15))])], [], [none, none, none, none], (.tuple [(.agg [(.int .i64 (.var 28)), (.int .i64 (.var 29)), (.int .i64 (.var 30)), (.int .i64 (.var 31))]), (.int .i64 (.var 32))]), []⟩
        (.ite (.icmp .eql (.var 32) (.lit 0))
        (.call etalonref06_numberOf_s ⟨[(.var 23), (.var 24), (.var 16), (.var 17), (.var 18)], [], []⟩ ⟨[(.var 23), (.var 24), (.var 16), (.var 17), (.var 18), (.var 33), (.var 34)], [], []⟩ ⟨66, [(.agg [(.int .i64 (.var 23)), (.int .i64 (.var 24))]), (.agg [(.int .i64 (.var 16)), (.int .i64 (.var 17)), (.int .i64 (.var 18))])], [], [none, none, none, none, none], (.agg [(.int .i64 (.var 33)), (.int .i64 (.var 34))]), []⟩
         (.call etalonref06_numberOf_s ⟨[(.var 28), (.var 29), (.var 16), (.var 17), (.var 18)], [], []⟩ ⟨[(.var 28), (.var 29), (.var 16), (.var 17), (.var 18), (.var 35), (.var 36)], [], []⟩ ⟨66, [(.agg [(.int .i64 (.var 28)), (.int .i64 (.var 29))]), (.agg [(.int .i64 (.var 16)), (.int .i64 (.var 17)), (.int .i64 (.var 18))])], [], [none, none, none, none, none], (.agg [(.int .i64 (.var 35)), (.int .i64 (.var 36))]), []⟩
         (.ite (.icmp .leq (.bin .maxI (.var 33) (.var 35)) (.bin .minI (.var 34) (.var 36)))
         (.call etalonref06_other_s ⟨[(.var 25), (.var 26), (.bin .maxI (.var 33) (.var 35)), (.bin .minI (.var 34) (.var 36)), (.var 16), (.var 17), (.var 18)], [], []⟩ ⟨[(.var 25), (.var 26), (.bin .maxI (.var 33) (.var 35)), (.bin .minI (.var 34) (.var 36)), (.var 16), (.var 17), (.var 18), (.var 37), (.var 38), (.var 39)], [], []⟩ ⟨67, [(.agg [(.int .i64 (.var 25)), (.int .i64 (.var 26))]), (.agg [(.int .i64 (.bin .maxI (.var 33) (.var 35))), (.int .i64 (.bin .minI (.var 34) (.var 36)))]), (.agg [(.int .i64 (.var 16)), (.int .i64 (.var 17)), (.int .i64 (.var 18))])], [], [none, none, none, none, none, none], (.tuple [(.agg [(.int .i64 (.var 37)), (.int .i64 (.var 38))]), (.int .i64 (.var 39))]), []⟩
          (.ite (.icmp .eql (.var 39) (.lit 0))
          (.call etalonref06_other_s ⟨[(.var 30), (.var 31), (.bin .maxI (.var 33) (.var 35)), (.bin .minI (.var 34) (.var 36)), (.var 16), (.var 17), (.var 18)], [], []⟩ ⟨[(.var 30), (.var 31), (.bin .maxI (.var 33) (.var 35)), (.bin .minI (.var 34) (.var 36)), (.var 16), (.var 17), (.var 18), (.var 40), (.var 41), (.var 42)], [], []⟩ ⟨67, [(.agg [(.int .i64 (.var 30)), (.int .i64 (.var 31))]), (.agg [(.int .i64 (.bin .maxI (.var 33) (.var 35))), (.int .i64 (.bin .minI (.var 34) (.var 36)))]), (.agg [(.int .i64 (.var 16)), (.int .i64 (.var 17)), (.int .i64 (.var 18))])], [], [none, none, none, none, none, none, none], (.tuple [(.agg [(.int .i64 (.var 40)), (.int .i64 (.var 41))]), (.int .i64 (.var 42))]), []⟩
           (.ite (.icmp .eql (.var 42) (.lit 0))
           (.ret ⟨[(.var 0), (.var 1), (.var 2), (.var 3), (.bin .maxI (.var 33) (.var 35)), (.bin .minI (.var 34) (.var 36)), (.var 37), (.var 38), (.var 40), (.var 41), (.lit 0)], [], []⟩ [])
           (.ret ⟨[(.lit 0), (.lit 0), (.lit 0), (.lit 0), (.lit 0), (.lit 0), (.lit 0), (.lit 0), (.lit 0), (.lit 0), (.var 42)], [], []⟩ [])))
          (.ret ⟨[(.lit 0), (.lit 0), (.lit 0), (.lit 0), (.lit 0), (.lit 0), (.lit 0), (.lit 0), (.lit 0), (.lit 0), (.var 39)], [], []⟩ [])))
         (.ret ⟨[(.lit 0), (.lit 0), (.lit 0), (.lit 0), (.lit 0), (.lit 0), (.lit 0), (.lit 0), (.lit 0), (.lit 0), (.lit 14)], [], []⟩ []))))
        (.ret ⟨[(.lit 0), (.lit 0), (.lit 0), (.lit 0), (.lit 0), (.lit 0), (.lit 0), (.lit 0), (.lit 0), (.lit 0), (.var 32)], [], []⟩ [])))
       (.ret ⟨[(.lit 0), (.lit 0), (.lit 0), (.lit 0), (.lit 0), (.lit 0), (.lit 0), (.lit 0), (.lit 0), (.lit 0), (.var 27)], [], []⟩ []))))
     (.ret ⟨[(.lit 0), (.lit 0), (.lit 0), (.lit 0), (.lit 0), (.lit 0), (.lit 0), (.lit 0), (.lit 0), (.lit 0), (.var 22)], [], []⟩ [])))
    (.ret ⟨[(.lit 0), (.lit 0), (.lit 0), (.lit 0), (.lit 0), (.lit 0), (.lit 0), (.lit 0), (.lit 0), (.lit 0), (.var 21)], [], []⟩ [])))
   (.ret ⟨[(.lit 0), (.lit 0), (.lit 0), (.lit 0), (.lit 0), (.lit 0), (.lit 0), (.lit 0), (.lit 0), (.lit 0), (.var 20)], [], []⟩ [])))
  (.ret ⟨[(.lit 0), (.lit 0), (.lit 0), (.lit 0), (.lit 0), (.lit 0), (.lit 0), (.lit 0), (.lit 0), (.lit 0), (.var 19)], [], []⟩ [])))
theorem rrw {x0 x1 x2 x3 x4 x5 x6 x7 x8 x9 x10 x11 x12 x13 x14 x15 x16 x17 x18 : Int} (r1 : (-9223372036854775808) ≤ x1 ∧ x1 ≤ 9223372036854775807) (r2 : (-9223372036854775808) ≤ x2 ∧ x2 ≤ 9223372036854775807) (r3 : (-9223372036854775808) ≤ x3 ∧ x3 ≤ 9223372036854775807) (r4 : (-9223372036854775808) ≤ x4 ∧ x4 ≤ 9223372036854775807) (r5 : (-9223372036854775808) ≤ x5 ∧ x5 ≤ 9223372036854775807) (r6 : (-9223372036854775808) ≤ x6 ∧ x6 ≤ 9223372036854775807) (r7 : (-9223372036854775808) ≤ x7 ∧ x7 ≤ 9223372036854775807) (r8 : (-9223372036854775808) ≤ x8 ∧ x8 ≤ 9223372036854775807) (r9 : (-9223372036854775808) ≤ x9 ∧ x9 ≤ 9223372036854775807) (r10 : (-9223372036854775808) ≤ x10 ∧ x10 ≤ 9223372036854775807) (r11 : (-9223372036854775808) ≤ x11 ∧ x11 ≤ 9223372036854775807) (r12 : (-9223372036854775808) ≤ x12 ∧ x12 ≤ 9223372036854775807) (r13 : (-9223372036854775808) ≤ x13 ∧ x13 ≤ 9223372036854775807) (r14 : (-9223372036854775808) ≤ x14 ∧ x14 ≤ 9223372036854775807) (r15 : (-9223372036854775808) ≤ x15 ∧ x15 ≤ 9223372036854775807) (r16 : (-9223372036854775808) ≤ x16 ∧ x16 ≤ 9223372036854775807) (r17 : (-9223372036854775808) ≤ x17 ∧ x17 ≤ 9223372036854775807) (r18 : (-9223372036854775808) ≤ x18 ∧ x18 ≤ 9223372036854775807) {R : Int → Int → Int → Int → Int → Int → Int → Int → Int → Int → Int → Prop}
  (H : (∃ v19 : Int, Spec Tryz.prog etalonref06_settingErr_s ⟨[x0, x1, x2, x3], [], []⟩ [v19] [] [] ∧
   ((((v19 : Int) == 0) = true → (∃ v20 : Int, Spec Tryz.prog etalonref06_CheckSums_s ⟨[x4, x5, x6, x7, x8, x9], [], []⟩ [v20] [] [] ∧
    ((((v20 : Int) == 0) = true → (∃ v21 : Int, Spec Tryz.prog etalonref06_CheckSums_s ⟨[x10, x11, x12, x13, x14, x15], [], []⟩ [v21] [] [] ∧
     ((((v21 : Int) == 0) = true → (∃ v22 : Int, Spec Tryz.prog etalonref05_CheckTurn_s ⟨[x16, x17, x18], [], []⟩ [v22] [] [] ∧
      ((((v22 : Int) == 0) = true → ((((x17 : Int) == 0) = true → R (0) (0) (0) (0) (0) (0) (0) (0) (0) (0) (9)) ∧
       (((x17 : Int) == 0) = false → (∃ v23 : Int, ∃ v24 : Int, ∃ v25 : Int, ∃ v26 : Int, ∃ v27 : Int, Spec Tryz.prog etalonref06_Ratios_s ⟨[x4, x5, x6, x7, x8, x9], [], []⟩ [v23, v24, v25, v26, v27] [] [] ∧
        ((((v27 : Int) == 0) = true → (∃ v28 : Int, ∃ v29 : Int, ∃ v30 : Int, ∃ v31 : Int, ∃ v32 : Int, Spec Tryz.prog etalonref06_Ratios_s ⟨[x10, x11, x12, x13, x14, x15], [], []⟩ [v28, v29, v30, v31, v32] [] [] ∧
         ((((v32 : Int) == 0) = true → (∃ v33 : Int, ∃ v34 : Int, Spec Tryz.prog etalonref06_numberOf_s ⟨[v23, v24, x16, x17, x18], [], []⟩ [v33, v34] [] [] ∧
          (∃ v35 : Int, ∃ v36 : Int, Spec Tryz.prog etalonref06_numberOf_s ⟨[v28, v29, x16, x17, x18], [], []⟩ [v35, v36] [] [] ∧
          ((decide (((if (v35 : Int) > v33 then v35 else v33) : Int) ≤ (if (v36 : Int) < v34 then v36 else v34)) = true → (∃ v37 : Int, ∃ v38 : Int, ∃ v39 : Int, Spec Tryz.prog etalonref06_other_s ⟨[v25, v26, (if (v35 : Int) > v33 then v35 else v33), (if (v36 : Int) < v34 then v36 else v34), x16, x17, x18], [], []⟩ [v37, v38, v39] [] [] ∧
           ((((v39 : Int) == 0) = true → (∃ v40 : Int, ∃ v41 : Int, ∃ v42 : Int, Spec Tryz.prog etalonref06_other_s ⟨[v30, v31, (if (v35 : Int) > v33 then v35 else v33), (if (v36 : Int) < v34 then v36 else v34), x16, x17, x18], [], []⟩ [v40, v41, v42] [] [] ∧
            ((((v42 : Int) == 0) = true → R (x0) (x1) (x2) (x3) ((if (v35 : Int) > v33 then v35 else v33)) ((if (v36 : Int) < v34 then v36 else v34)) (v37) (v38) (v40) (v41) (0)) ∧
            (((v42 : Int) == 0) = false → R (0) (0) (0) (0) (0) (0) (0) (0) (0) (0) (v42))))) ∧
           (((v39 : Int) == 0) = false → R (0) (0) (0) (0) (0) (0) (0) (0) (0) (0) (v39))))) ∧
          (decide (((if (v35 : Int) > v33 then v35 else v33) : Int) ≤ (if (v36 : Int) < v34 then v36 else v34)) = false → R (0) (0) (0) (0) (0) (0) (0) (0) (0) (0) (14)))))) ∧
         (((v32 : Int) == 0) = false → R (0) (0) (0) (0) (0) (0) (0) (0) (0) (0) (v32))))) ∧
        (((v27 : Int) == 0) = false → R (0) (0) (0) (0) (0) (0) (0) (0) (0) (0) (v27))))))) ∧
      (((v22 : Int) == 0) = false → R (0) (0) (0) (0) (0) (0) (0) (0) (0) (0) (v22))))) ∧
     (((v21 : Int) == 0) = false → R (0) (0) (0) (0) (0) (0) (0) (0) (0) (0) (v21))))) ∧
    (((v20 : Int) == 0) = false → R (0) (0) (0) (0) (0) (0) (0) (0) (0) (0) (v20))))) ∧
   (((v19 : Int) == 0) = false → R (0) (0) (0) (0) (0) (0) (0) (0) (0) (0) (v19))))) :
    ∃ v0 : Int, ∃ v1 : Int, ∃ v2 : Int, ∃ v3 : Int, ∃ v4 : Int, ∃ v5 : Int, ∃ v6 : Int, ∃ v7 : Int, ∃ v8 : Int, ∃ v9 : Int, ∃ v10 : Int, R v0 v1 v2 v3 v4 v5 v6 v7 v8 v9 v10 ∧ Spec Tryz.prog etalonref06_ReadingOf_s ⟨[x0, x1, x2, x3, x4, x5, x6, x7, x8, x9, x10, x11, x12, x13, x14, x15, x16, x17, x18], [], []⟩ [v0, v1, v2, v3, v4, v5, v6, v7, v8, v9, v10] [] [] :=
  Eq.mp (by kernel_rfl) (exV_of (K := fun d => app3 etalonref06_ReadingOf_s.out R d ∧ Spec Tryz.prog etalonref06_ReadingOf_s ⟨[x0, x1, x2, x3, x4, x5, x6, x7, x8, x9, x10, x11, x12, x13, x14, x15, x16, x17, x18], [], []⟩ d.1 d.2.1 d.2.2) (tree_at mixed names S1_ok (S := S1 Tryz.prog) (lf := 100000) (d := 60) etalonref06_ReadingOf_s rrw_t { ivs := [(1, (-9223372036854775808), 9223372036854775807), (2, (-9223372036854775808), 9223372036854775807), (3, (-9223372036854775808), 9223372036854775807), (4, (-9223372036854775808), 9223372036854775807), (5, (-9223372036854775808), 9223372036854775807), (6, (-9223372036854775808), 9223372036854775807), (7, (-9223372036854775808), 9223372036854775807), (8, (-9223372036854775808), 9223372036854775807), (9, (-9223372036854775808), 9223372036854775807), (10, (-9223372036854775808), 9223372036854775807), (11, (-9223372036854775808), 9223372036854775807), (12, (-9223372036854775808), 9223372036854775807), (13, (-9223372036854775808), 9223372036854775807), (14, (-9223372036854775808), 9223372036854775807), (15, (-9223372036854775808), 9223372036854775807), (16, (-9223372036854775808), 9223372036854775807), (17, (-9223372036854775808), 9223372036854775807), (18, (-9223372036854775808), 9223372036854775807)], aivs := [] } ⟨[x0, x1, x2, x3, x4, x5, x6, x7, x8, x9, x10, x11, x12, x13, x14, x15, x16, x17, x18], [], []⟩ rfl (by kernel_rfl) (by kernel_rfl) (by kernel_rfl) ⟨(fc r1 (fc r2 (fc r3 (fc r4 (fc r5 (fc r6 (fc r7 (fc r8 (fc r9 (fc r10 (fc r11 (fc r12 (fc r13 (fc r14 (fc r15 (fc r16 (fc r17 (fc r18 fz)))))))))))))))))), fz, fz, fz⟩ (R := fun d => app3 etalonref06_ReadingOf_s.out R d) (Eq.mp (by kernel_rfl) H)))

def mrd_t : Tr :=
  (.call etalonlaw06_awake_s ⟨[], [], []⟩ ⟨[], [(.var 0)], []⟩ ⟨8, [], [], [none], (.bool (.var 0)), []⟩
  (.ite (.var 0)
  (.call meter_ReadingOf_s ⟨[(.var 0), (.var 1), (.var 2), (.var 3), (.var 4), (.var 5), (.var 6), (.var 7), (.var 8), (.var 9), (.var 10), (.var 11), (.var 12), (.var 13), (.var 14), (.var 15), (.var 16), (.var 17), (.var 18)], [], []⟩ ⟨[(.var 0), (.var 1), (.var 2), (.var 3), (.var 4), (.var 5), (.var 6), (.var 7), (.var 8), (.var 9), (.var 10), (.var 11), (.var 12), (.var 13), (.var 14), (.var 15), (.var 16), (.var 17), (.var 18), (.var 19), (.var 20), (.var 21), (.var 22), (.var 23), (.var 24), (.var 25), (.var 26), (.var 27), (.var 28), (.var 29)], [], []⟩ ⟨23, [(.agg [(.strn (.var 0)), (.int .i64 (.var 1)), (.int .i64 (.var 2)), (.int .i64 (.var 3)), (.int .i64 (.var 4)), (.int .i64 (.var 5)), (.int .i64 (.var 6)), (.int .i64 (.var 7)), (.int .i64 (.var 8)), (.int .i64 (.var 9)), (.int .i64 (.var 10)), (.int .i64 (.var 11)), (.int .i64 (.var 12)), (.int .i64 (.var 13)), (.int .i64 (.var 14)), (.int .i64 (.var 15)), (.int .i64 (.var 16)), (.int .i64 (.var 17)), (.int .i64 (.var 18))])], [], [none], (.tuple [(.agg [(.strn (.var 19)), (.int .i64 (.var 20)), (.int .i64 (.var 21)), (.int .i64 (.var 22)), (.int .i64 (.var 23)), (.int .i64 (.var 24)), (.int .i64 (.var 25)), (.int .i64 (.var 26)), (.int .i64 (.var 27)), (.int .i64 (.var 28))]), (.int .i64 (.var 29))]), []⟩
   (.call etalonref06_ReadingOf_s ⟨[(.var 0), (.var 1), (.var 2), (.var 3), (.var 4), (.var 5), (.var 6), (.var 7), (.var 8), (.var 9), (.var 10), (.var 11), (.var 12), (.var 13), (.var 14), (.var 15), (.var 16), (.var 17), (.var 18)], [], []⟩ ⟨[(.var 0), (.var 1), (.var 2), (.var 3), (.var 4), (.var 5), (.var 6), (.var 7), (.var 8), (.var 9), (.var 10), (.var 11), (.var 12), (.var 13), (.var 14), (.var 15), (.var 16), (.var 17), (.var 18), (.var 30), (.var 31), (.var 32), (.var 33), (.var 34), (.var 35), (.var 36), (.var 37), (.var 38), (.var 39), (.var 40)], [], []⟩ ⟨24, [(.agg [(.strn (.var 0)), (.int .i64 (.var 1)), (.int .i64 (.var 2)), (.int .i64 (.var 3)), (.int .i64 (.var 4)), (.int .i64 (.var 5)), (.int .i64 (.var 6)), (.int .i64 (.var 7)), (.int .i64 (.var 8)), (.int .i64 (.var 9)), (.int .i64 (.var 10)), (.int .i64 (.var 11)), (.int .i64 (.var 12)), (.int .i64 (.var 13)), (.int .i64 (.var 14)), (.int .i64 (.var 15)), (.int .i64 (.var 16)), (.int .i64 (.var 17)), (.int .i64 (.var 18))])], [], [none, none], (.tuple [(.agg [(.strn (.var 30)), (.int .i64 (.var 31)), (.int .i64 (.var 32)), (.int .i64 (.var 33)), (.int .i64 (.var 34)), (.int .i64 (.var 35)), (.int .i64 (.var 36)), (.int .i64 (.var 37)), (.int .i64 (.var 38)), (.int .i64 (.var 39))]), (.int .i64 (.var 40))]), []⟩
   (.ite (.icmp .eql (.var 29) (.var 40))
   (.ite (.icmp .eql (.bin .maxI (.var 19) (.lit 0)) (.bin .maxI (.var 30) (.lit 0)))
    (.ite (.icmp .eql (.var 20) (.var 31))
     (.ite (.icmp .eql (.var 21) (.var 32))
      (.ite (.icmp .eql (.var 22) (.var 33))
       (.ite (.icmp .eql (.var 23) (.var 34))
        (.ite (.icmp .eql (.var 24) (.var 35))
         (.ite (.icmp .eql (.var 25) (.var 36))
          (.ite (.icmp .eql (.var 26) (.var 37))
           (.ite (.icmp .eql (.var 27) (.var 38))
            (.ite (.icmp .eql (.var 28) (.var 39))
             (.ite (.icmp .eql (.var 40) (.lit 0))
              (.call meter_CheckReading_s ⟨[(.var 19), (.var 20), (.var 21), (.var 22), (.var 23), (.var 24), (.var 25), (.var 26), (.var 27), (.var 28)], [], []⟩ ⟨[(.var 19), (.var 20), (.var 21), (.var 22), (.var 23), (.var 24), (.var 25), (.var 26), (.var 27), (.var 28), (.var 41)], [], []⟩ ⟨25, [(.agg [(.strn (.var 19)), (.int .i64 (.var 20)), (.int .i64 (.var 21)), (.int .i64 (.var 22)), (.int .i64 (.var 23)), (.int .i64 (.var 24)), (.int .i64 (.var 25)), (.int .i64 (.var 26)), (.int .i64 (.var 27)), (.int .i64 (.var 28))])], [], [none, none, none], (.int .i64 (.var 41)), []⟩
               (.ret ⟨[], [(.icmp .eql (.var 41) (.lit 0))], []⟩ []))
              (.ret ⟨[], [(.lit true)], []⟩ []))
             (.ret ⟨[], [(.lit false)], []⟩ []))
            (.ret ⟨[], [(.lit false)], []⟩ []))
           (.ret ⟨[], [(.lit false)], []⟩ []))
          (.ret ⟨[], [(.lit false)], []⟩ []))
         (.ret ⟨[], [(.lit false)], []⟩ []))
        (.ret ⟨[], [(.lit false)], []⟩ []))
       (.ret ⟨[], [(.lit false)], []⟩ []))
      (.ret ⟨[], [(.lit false)], []⟩ []))
     (.ret ⟨[], [(.lit false)], []⟩ []))
    (.ret ⟨[], [(.lit false)], []⟩ []))
   (.ret ⟨[], [(.lit false)], []⟩ []))))
  (.ret ⟨[], [(.lit false)], []⟩ [])))
theorem mrd {x0 x1 x2 x3 x4 x5 x6 x7 x8 x9 x10 x11 x12 x13 x14 x15 x16 x17 x18 : Int} (r1 : (-9223372036854775808) ≤ x1 ∧ x1 ≤ 9223372036854775807) (r2 : (-9223372036854775808) ≤ x2 ∧ x2 ≤ 9223372036854775807) (r3 : (-9223372036854775808) ≤ x3 ∧ x3 ≤ 9223372036854775807) (r4 : (-9223372036854775808) ≤ x4 ∧ x4 ≤ 9223372036854775807) (r5 : (-9223372036854775808) ≤ x5 ∧ x5 ≤ 9223372036854775807) (r6 : (-9223372036854775808) ≤ x6 ∧ x6 ≤ 9223372036854775807) (r7 : (-9223372036854775808) ≤ x7 ∧ x7 ≤ 9223372036854775807) (r8 : (-9223372036854775808) ≤ x8 ∧ x8 ≤ 9223372036854775807) (r9 : (-9223372036854775808) ≤ x9 ∧ x9 ≤ 9223372036854775807) (r10 : (-9223372036854775808) ≤ x10 ∧ x10 ≤ 9223372036854775807) (r11 : (-9223372036854775808) ≤ x11 ∧ x11 ≤ 9223372036854775807) (r12 : (-9223372036854775808) ≤ x12 ∧ x12 ≤ 9223372036854775807) (r13 : (-9223372036854775808) ≤ x13 ∧ x13 ≤ 9223372036854775807) (r14 : (-9223372036854775808) ≤ x14 ∧ x14 ≤ 9223372036854775807) (r15 : (-9223372036854775808) ≤ x15 ∧ x15 ≤ 9223372036854775807) (r16 : (-9223372036854775808) ≤ x16 ∧ x16 ≤ 9223372036854775807) (r17 : (-9223372036854775808) ≤ x17 ∧ x17 ≤ 9223372036854775807) (r18 : (-9223372036854775808) ≤ x18 ∧ x18 ≤ 9223372036854775807) {R : Bool → Prop}
  (H : (∃ u0 : Bool, Spec Tryz.prog etalonlaw06_awake_s ⟨[], [], []⟩ [] [u0] [] ∧
   ((u0 = true → (∃ v19 : Int, ∃ v20 : Int, ∃ v21 : Int, ∃ v22 : Int, ∃ v23 : Int, ∃ v24 : Int, ∃ v25 : Int, ∃ v26 : Int, ∃ v27 : Int, ∃ v28 : Int, ∃ v29 : Int, Spec Tryz.prog meter_ReadingOf_s ⟨[x0, x1, x2, x3, x4, x5, x6, x7, x8, x9, x10, x11, x12, x13, x14, x15, x16, x17, x18], [], []⟩ [v19, v20, v21, v22, v23, v24, v25, v26, v27, v28, v29] [] [] ∧
    (∃ v30 : Int, ∃ v31 : Int, ∃ v32 : Int, ∃ v33 : Int, ∃ v34 : Int, ∃ v35 : Int, ∃ v36 : Int, ∃ v37 : Int, ∃ v38 : Int, ∃ v39 : Int, ∃ v40 : Int, Spec Tryz.prog etalonref06_ReadingOf_s ⟨[x0, x1, x2, x3, x4, x5, x6, x7, x8, x9, x10, x11, x12, x13, x14, x15, x16, x17, x18], [], []⟩ [v30, v31, v32, v33, v34, v35, v36, v37, v38, v39, v40] [] [] ∧
    ((((v29 : Int) == v40) = true → (((((if (0 : Int) > v19 then 0 else v19) : Int) == (if (0 : Int) > v30 then 0 else v30)) = true → ((((v20 : Int) == v31) = true → ((((v21 : Int) == v32) = true → ((((v22 : Int) == v33) = true → ((((v23 : Int) == v34) = true → ((((v24 : Int) == v35) = true → ((((v25 : Int) == v36) = true → ((((v26 : Int) == v37) = true → ((((v27 : Int) == v38) = true → ((((v28 : Int) == v39) = true → ((((v40 : Int) == 0) = true → (∃ v41 : Int, Spec Tryz.prog meter_CheckReading_s ⟨[v19, v20, v21, v22, v23, v24, v25, v26, v27, v28], [], []⟩ [v41] [] [] ∧
                R (((v41 : Int) == 0)))) ∧
               (((v40 : Int) == 0) = false → R (true)))) ∧
              (((v28 : Int) == v39) = false → R (false)))) ∧
             (((v27 : Int) == v38) = false → R (false)))) ∧
            (((v26 : Int) == v37) = false → R (false)))) ∧
           (((v25 : Int) == v36) = false → R (false)))) ∧
          (((v24 : Int) == v35) = false → R (false)))) ∧
         (((v23 : Int) == v34) = false → R (false)))) ∧
        (((v22 : Int) == v33) = false → R (false)))) ∧
       (((v21 : Int) == v32) = false → R (false)))) ∧
      (((v20 : Int) == v31) = false → R (false)))) ∧
     ((((if (0 : Int) > v19 then 0 else v19) : Int) == (if (0 : Int) > v30 then 0 else v30)) = false → R (false)))) ∧
    (((v29 : Int) == v40) = false → R (false)))))) ∧
   (u0 = false → R (false))))) :
    ∃ u0 : Bool, R u0 ∧ Spec Tryz.prog etalonlaw06_MeterReads_s ⟨[x0, x1, x2, x3, x4, x5, x6, x7, x8, x9, x10, x11, x12, x13, x14, x15, x16, x17, x18], [], []⟩ [] [u0] [] :=
  Eq.mp (by kernel_rfl) (exV_of (K := fun d => app3 etalonlaw06_MeterReads_s.out R d ∧ Spec Tryz.prog etalonlaw06_MeterReads_s ⟨[x0, x1, x2, x3, x4, x5, x6, x7, x8, x9, x10, x11, x12, x13, x14, x15, x16, x17, x18], [], []⟩ d.1 d.2.1 d.2.2) (tree_at mixed names S1_ok (S := S1 Tryz.prog) (lf := 100000) (d := 60) etalonlaw06_MeterReads_s mrd_t { ivs := [(1, (-9223372036854775808), 9223372036854775807), (2, (-9223372036854775808), 9223372036854775807), (3, (-9223372036854775808), 9223372036854775807), (4, (-9223372036854775808), 9223372036854775807), (5, (-9223372036854775808), 9223372036854775807), (6, (-9223372036854775808), 9223372036854775807), (7, (-9223372036854775808), 9223372036854775807), (8, (-9223372036854775808), 9223372036854775807), (9, (-9223372036854775808), 9223372036854775807), (10, (-9223372036854775808), 9223372036854775807), (11, (-9223372036854775808), 9223372036854775807), (12, (-9223372036854775808), 9223372036854775807), (13, (-9223372036854775808), 9223372036854775807), (14, (-9223372036854775808), 9223372036854775807), (15, (-9223372036854775808), 9223372036854775807), (16, (-9223372036854775808), 9223372036854775807), (17, (-9223372036854775808), 9223372036854775807), (18, (-9223372036854775808), 9223372036854775807)], aivs := [] } ⟨[x0, x1, x2, x3, x4, x5, x6, x7, x8, x9, x10, x11, x12, x13, x14, x15, x16, x17, x18], [], []⟩ rfl (by kernel_rfl) (by kernel_rfl) (by kernel_rfl) ⟨(fc r1 (fc r2 (fc r3 (fc r4 (fc r5 (fc r6 (fc r7 (fc r8 (fc r9 (fc r10 (fc r11 (fc r12 (fc r13 (fc r14 (fc r15 (fc r16 (fc r17 (fc r18 fz)))))))))))))))))), fz, fz, fz⟩ (R := fun d => app3 etalonlaw06_MeterReads_s.out R d) (Eq.mp (by kernel_rfl) H)))

theorem now_e (a b : Int) : (if b > a then b else a) = max a b := ite_max a b

def eq11 (c0 c1 c2 c3 c4 c5 c6 c7 c8 c9 c10 v0 v1 v2 v3 v4 v5 v6 v7 v8 v9 v10 : Int) : Prop := v0 = c0 ∧ v1 = c1 ∧ v2 = c2 ∧ v3 = c3 ∧ v4 = c4 ∧ v5 = c5 ∧ v6 = c6 ∧ v7 = c7 ∧ v8 = c8 ∧ v9 = c9 ∧ v10 = c10

theorem eq11_of {c0 c1 c2 c3 c4 c5 c6 c7 c8 c9 c10 : Int} {P : Int → Int → Int → Int → Int → Int → Int → Int → Int → Int → Int → Prop} (h : ∃ v0 v1 v2 v3 v4 v5 v6 v7 v8 v9 v10 : Int, eq11 c0 c1 c2 c3 c4 c5 c6 c7 c8 c9 c10 v0 v1 v2 v3 v4 v5 v6 v7 v8 v9 v10 ∧ P v0 v1 v2 v3 v4 v5 v6 v7 v8 v9 v10) : P c0 c1 c2 c3 c4 c5 c6 c7 c8 c9 c10 := by

  obtain ⟨v0, v1, v2, v3, v4, v5, v6, v7, v8, v9, v10, ⟨rfl, rfl, rfl, rfl, rfl, rfl, rfl, rfl, rfl, rfl, rfl⟩, hp⟩ := h

  exact hp

/-- The ends of a ratio without an error. -/

theorem rt_in {x0 x1 x2 x3 x4 x5 a b c d : Int} (hs : smE x0 x1 x2 x3 x4 x5 = 0) (h : rtE x0 x1 x2 x3 x4 x5 = 0) (hv : rtV x0 x1 x2 x3 x4 x5 a b c d) :

    (((-1048576) ≤ a ∧ a ≤ 1048576) ∧ ((-1048576) ≤ b ∧ b ≤ 1048576) ∧ a ≤ b) ∧ (((-1048576) ≤ c ∧ c ≤ 1048576) ∧ ((-1048576) ≤ d ∧ d ≤ 1048576) ∧ c ≤ d) := by

  obtain ⟨⟨a1, a2, a3⟩, ⟨b1, b2, b3⟩, ⟨c1, c2, c3⟩⟩ := smE_ok hs

  unfold rtV at hv

  rw [if_pos h] at hv

  unfold rtE fe at h

  rw [if_pos hs] at h

  split at h

  · cases h

  rename_i h0

  have le : ∀ u w : Int, u ≤ w → raL u x0 x1 ≤ raH w x0 x1 := fun u w huw => by

    have m1 := four_min (a := u) (b := w) (L := x0) (H := x1) (by omega) (by omega) huw

    have m2 := four_max (a := u) (b := w) (L := x0) (H := x1) (by omega) (by omega) huw

    have f : 2 * u * 1048576 / x0 ≤ cdiv (2 * u * 1048576) x0 := fl_ce (by omega)

    omega

  have l1 := le x2 x3 b3

  have l2 := le x4 x5 c3

  have cut : ∀ lo hi : Int, cutE lo hi = 0 → lo ≤ hi → (((-1048576) ≤ cutL lo hi ∧ cutL lo hi ≤ 1048576) ∧ ((-1048576) ≤ cutH lo hi ∧ cutH lo hi ≤ 1048576) ∧ cutL lo hi ≤ cutH lo hi) := fun lo hi e hl => by

    unfold cutL cutH

    rw [if_pos e, if_pos e]

    unfold cutE at e

    split at e

    · omega

    · cases e

  obtain ⟨e1, e2, e3, e4⟩ := hv

  rw [e1, e2, e3, e4]

  split at h

  · rename_i q; exact ⟨cut _ _ q l1, cut _ _ h l2⟩

  · rename_i q; exact absurd h q

theorem cut_in {lo hi : Int} (e : cutE lo hi = 0) (hl : lo ≤ hi) : re (-1048576) 1048576 (cutL lo hi) (cutH lo hi) = 0 := by

  unfold cutL cutH

  rw [if_pos e, if_pos e]

  unfold cutE at e

  split at e

  · unfold re; rw [if_pos (by omega), if_pos (by omega)]

  · cases e

set_option maxHeartbeats 8000000 in

/-- Program and reference make the same reading, or tell the same error; a reading that is told is right. -/

theorem reading {x0 x1 x2 x3 x4 x5 x6 x7 x8 x9 x10 x11 x12 x13 x14 x15 x16 x17 x18 : Int} (r1 : I64 x1) (r2 : I64 x2) (r3 : I64 x3) (r4 : I64 x4) (r5 : I64 x5) (r6 : I64 x6) (r7 : I64 x7) (r8 : I64 x8) (r9 : I64 x9) (r10 : I64 x10) (r11 : I64 x11) (r12 : I64 x12) (r13 : I64 x13) (r14 : I64 x14) (r15 : I64 x15) (r16 : I64 x16) (r17 : I64 x17) (r18 : I64 x18) : ∃ v0 v1 v2 v3 v4 v5 v6 v7 v8 v9 v10 : Int, Spec Tryz.prog meter_ReadingOf_s ⟨[x0, x1, x2, x3, x4, x5, x6, x7, x8, x9, x10, x11, x12, x13, x14, x15, x16, x17, x18], [], []⟩ [v0, v1, v2, v3, v4, v5, v6, v7, v8, v9, v10] [] [] ∧ Spec Tryz.prog etalonref06_ReadingOf_s ⟨[x0, x1, x2, x3, x4, x5, x6, x7, x8, x9, x10, x11, x12, x13, x14, x15, x16, x17, x18], [], []⟩ [v0, v1, v2, v3, v4, v5, v6, v7, v8, v9, v10] [] [] ∧

    (v10 = 0 → v0 = x0 ∧ v1 = x1 ∧ v2 = x2 ∧ v3 = x3 ∧ (∃ u : Bool, Spec Tryz.prog text_IsName_s ⟨[x0], [], []⟩ [] [u] [] ∧ se u x1 x2 x3 = 0) ∧ re (-1048576) 1048576 v4 v5 = 0 ∧ re (-1048576) 1048576 v6 v7 = 0 ∧ re (-1048576) 1048576 v8 v9 = 0) := by

  obtain ⟨u, _, n1, n2⟩ := isName_s x0

  have hse := setting_p n1 r1 r2 r3

  have hse' := setting_r n2 r1 r2 r3

  have hb := checkSums_p r4 r5 r6 r7 r8 r9

  have hb' := checkSums_r r4 r5 r6 r7 r8 r9

  have hp := checkSums_p r10 r11 r12 r13 r14 r15

  have hp' := checkSums_r r10 r11 r12 r13 r14 r15

  have ht := checkTurn_p r16 r17 r18

  have ht' := checkTurn_r r16 r17 r18

  by_cases hA : se u x1 x2 x3 = 0

  case neg =>

    have eq : eq11 (0) (0) (0) (0) (0) (0) (0) (0) (0) (0) (se u x1 x2 x3) (0) (0) (0) (0) (0) (0) (0) (0) (0) (0) (se u x1 x2 x3) := ⟨rfl, rfl, rfl, rfl, rfl, rfl, rfl, rfl, rfl, rfl, rfl⟩

    exact ⟨_, _, _, _, _, _, _, _, _, _, _, eq11_of (rdw r1 r2 r3 r4 r5 r6 r7 r8 r9 r10 r11 r12 r13 r14 r15 r16 r17 r18 (R := eq11 (0) (0) (0) (0) (0) (0) (0) (0) (0) (0) (se u x1 x2 x3)) ⟨_, hse, _, hb, _, hp, _, ht, ⟨fun g => absurd (eq_of_beq g) hA, fun _ => eq⟩⟩), eq11_of (rrw r1 r2 r3 r4 r5 r6 r7 r8 r9 r10 r11 r12 r13 r14 r15 r16 r17 r18 (R := eq11 (0) (0) (0) (0) (0) (0) (0) (0) (0) (0) (se u x1 x2 x3)) ⟨_, hse', ⟨fun g => absurd (eq_of_beq g) hA, fun _ => eq⟩⟩), fun h => absurd h hA⟩

  by_cases hB : smE x4 x5 x6 x7 x8 x9 = 0

  case neg =>

    have eq : eq11 (0) (0) (0) (0) (0) (0) (0) (0) (0) (0) (smE x4 x5 x6 x7 x8 x9) (0) (0) (0) (0) (0) (0) (0) (0) (0) (0) (smE x4 x5 x6 x7 x8 x9) := ⟨rfl, rfl, rfl, rfl, rfl, rfl, rfl, rfl, rfl, rfl, rfl⟩

    exact ⟨_, _, _, _, _, _, _, _, _, _, _, eq11_of (rdw r1 r2 r3 r4 r5 r6 r7 r8 r9 r10 r11 r12 r13 r14 r15 r16 r17 r18 (R := eq11 (0) (0) (0) (0) (0) (0) (0) (0) (0) (0) (smE x4 x5 x6 x7 x8 x9)) ⟨_, hse, _, hb, _, hp, _, ht, ⟨fun _ => ⟨fun g => absurd (eq_of_beq g) hB, fun _ => eq⟩, fun g => absurd hA (ne_dec' g)⟩⟩), eq11_of (rrw r1 r2 r3 r4 r5 r6 r7 r8 r9 r10 r11 r12 r13 r14 r15 r16 r17 r18 (R := eq11 (0) (0) (0) (0) (0) (0) (0) (0) (0) (0) (smE x4 x5 x6 x7 x8 x9)) ⟨_, hse', ⟨fun _ => ⟨_, hb', ⟨fun g => absurd (eq_of_beq g) hB, fun _ => eq⟩⟩, fun g => absurd hA (ne_dec' g)⟩⟩), fun h => absurd h hB⟩

  by_cases hC : smE x10 x11 x12 x13 x14 x15 = 0

  case neg =>

    have eq : eq11 (0) (0) (0) (0) (0) (0) (0) (0) (0) (0) (smE x10 x11 x12 x13 x14 x15) (0) (0) (0) (0) (0) (0) (0) (0) (0) (0) (smE x10 x11 x12 x13 x14 x15) := ⟨rfl, rfl, rfl, rfl, rfl, rfl, rfl, rfl, rfl, rfl, rfl⟩

    exact ⟨_, _, _, _, _, _, _, _, _, _, _, eq11_of (rdw r1 r2 r3 r4 r5 r6 r7 r8 r9 r10 r11 r12 r13 r14 r15 r16 r17 r18 (R := eq11 (0) (0) (0) (0) (0) (0) (0) (0) (0) (0) (smE x10 x11 x12 x13 x14 x15)) ⟨_, hse, _, hb, _, hp, _, ht, ⟨fun _ => ⟨fun _ => ⟨fun g => absurd (eq_of_beq g) hC, fun _ => eq⟩, fun g => absurd hB (ne_dec' g)⟩, fun g => absurd hA (ne_dec' g)⟩⟩), eq11_of (rrw r1 r2 r3 r4 r5 r6 r7 r8 r9 r10 r11 r12 r13 r14 r15 r16 r17 r18 (R := eq11 (0) (0) (0) (0) (0) (0) (0) (0) (0) (0) (smE x10 x11 x12 x13 x14 x15)) ⟨_, hse', ⟨fun _ => ⟨_, hb', ⟨fun _ => ⟨_, hp', ⟨fun g => absurd (eq_of_beq g) hC, fun _ => eq⟩⟩, fun g => absurd hB (ne_dec' g)⟩⟩, fun g => absurd hA (ne_dec' g)⟩⟩), fun h => absurd h hC⟩

  by_cases hD : tnE x16 x17 x18 = 0

  case neg =>

    have eq : eq11 (0) (0) (0) (0) (0) (0) (0) (0) (0) (0) (tnE x16 x17 x18) (0) (0) (0) (0) (0) (0) (0) (0) (0) (0) (tnE x16 x17 x18) := ⟨rfl, rfl, rfl, rfl, rfl, rfl, rfl, rfl, rfl, rfl, rfl⟩

    exact ⟨_, _, _, _, _, _, _, _, _, _, _, eq11_of (rdw r1 r2 r3 r4 r5 r6 r7 r8 r9 r10 r11 r12 r13 r14 r15 r16 r17 r18 (R := eq11 (0) (0) (0) (0) (0) (0) (0) (0) (0) (0) (tnE x16 x17 x18)) ⟨_, hse, _, hb, _, hp, _, ht, ⟨fun _ => ⟨fun _ => ⟨fun _ => ⟨fun g => absurd (eq_of_beq g) hD, fun _ => eq⟩, fun g => absurd hC (ne_dec' g)⟩, fun g => absurd hB (ne_dec' g)⟩, fun g => absurd hA (ne_dec' g)⟩⟩), eq11_of (rrw r1 r2 r3 r4 r5 r6 r7 r8 r9 r10 r11 r12 r13 r14 r15 r16 r17 r18 (R := eq11 (0) (0) (0) (0) (0) (0) (0) (0) (0) (0) (tnE x16 x17 x18)) ⟨_, hse', ⟨fun _ => ⟨_, hb', ⟨fun _ => ⟨_, hp', ⟨fun _ => ⟨_, ht', ⟨fun g => absurd (eq_of_beq g) hD, fun _ => eq⟩⟩, fun g => absurd hC (ne_dec' g)⟩⟩, fun g => absurd hB (ne_dec' g)⟩⟩, fun g => absurd hA (ne_dec' g)⟩⟩), fun h => absurd h hD⟩

  by_cases hE : x17 = 0

  case pos =>

    have eq : eq11 (0) (0) (0) (0) (0) (0) (0) (0) (0) (0) (9) (0) (0) (0) (0) (0) (0) (0) (0) (0) (0) (9) := ⟨rfl, rfl, rfl, rfl, rfl, rfl, rfl, rfl, rfl, rfl, rfl⟩

    exact ⟨_, _, _, _, _, _, _, _, _, _, _, eq11_of (rdw r1 r2 r3 r4 r5 r6 r7 r8 r9 r10 r11 r12 r13 r14 r15 r16 r17 r18 (R := eq11 (0) (0) (0) (0) (0) (0) (0) (0) (0) (0) (9)) ⟨_, hse, _, hb, _, hp, _, ht, ⟨fun _ => ⟨fun _ => ⟨fun _ => ⟨fun _ => ⟨fun _ => eq, fun g => absurd hE (ne_dec' g)⟩, fun g => absurd hD (ne_dec' g)⟩, fun g => absurd hC (ne_dec' g)⟩, fun g => absurd hB (ne_dec' g)⟩, fun g => absurd hA (ne_dec' g)⟩⟩), eq11_of (rrw r1 r2 r3 r4 r5 r6 r7 r8 r9 r10 r11 r12 r13 r14 r15 r16 r17 r18 (R := eq11 (0) (0) (0) (0) (0) (0) (0) (0) (0) (0) (9)) ⟨_, hse', ⟨fun _ => ⟨_, hb', ⟨fun _ => ⟨_, hp', ⟨fun _ => ⟨_, ht', ⟨fun _ => ⟨fun _ => eq, fun g => absurd hE (ne_dec' g)⟩, fun g => absurd hD (ne_dec' g)⟩⟩, fun g => absurd hC (ne_dec' g)⟩⟩, fun g => absurd hB (ne_dec' g)⟩⟩, fun g => absurd hA (ne_dec' g)⟩⟩), fun h => absurd h (by decide)⟩

  have tk := tnOk hD hE

  obtain ⟨a0, a1, a2, a3, hvR, hRp⟩ := ratios_p r4 r5 r6 r7 r8 r9

  obtain ⟨d0, d1, d2, d3, hvS, hSp⟩ := ratios_p r10 r11 r12 r13 r14 r15

  have hRr : Spec Tryz.prog etalonref06_Ratios_s ⟨[x4, x5, x6, x7, x8, x9], [], []⟩ [a0, a1, a2, a3, rtE x4 x5 x6 x7 x8 x9] [] [] := by

    obtain ⟨_, _, _, _, hv', h'⟩ := ratios_r r4 r5 r6 r7 r8 r9 hB

    obtain ⟨rfl, rfl, rfl, rfl⟩ := rtV_uniq hvR hv'

    exact h'

  have hSr : Spec Tryz.prog etalonref06_Ratios_s ⟨[x10, x11, x12, x13, x14, x15], [], []⟩ [d0, d1, d2, d3, rtE x10 x11 x12 x13 x14 x15] [] [] := by

    obtain ⟨_, _, _, _, hv', h'⟩ := ratios_r r10 r11 r12 r13 r14 r15 hC

    obtain ⟨rfl, rfl, rfl, rfl⟩ := rtV_uniq hvS hv'

    exact h'

  by_cases hF : rtE x4 x5 x6 x7 x8 x9 = 0

  case neg =>

    have eq : eq11 (0) (0) (0) (0) (0) (0) (0) (0) (0) (0) (rtE x4 x5 x6 x7 x8 x9) (0) (0) (0) (0) (0) (0) (0) (0) (0) (0) (rtE x4 x5 x6 x7 x8 x9) := ⟨rfl, rfl, rfl, rfl, rfl, rfl, rfl, rfl, rfl, rfl, rfl⟩

    exact ⟨_, _, _, _, _, _, _, _, _, _, _, eq11_of (rdw r1 r2 r3 r4 r5 r6 r7 r8 r9 r10 r11 r12 r13 r14 r15 r16 r17 r18 (R := eq11 (0) (0) (0) (0) (0) (0) (0) (0) (0) (0) (rtE x4 x5 x6 x7 x8 x9)) ⟨_, hse, _, hb, _, hp, _, ht, ⟨fun _ => ⟨fun _ => ⟨fun _ => ⟨fun _ => ⟨fun g => absurd (eq_of_beq g) hE, fun _ => ⟨_, _, _, _, _, hRp, _, _, _, _, _, hSp, ⟨fun g => absurd (eq_of_beq g) hF, fun _ => eq⟩⟩⟩, fun g => absurd hD (ne_dec' g)⟩, fun g => absurd hC (ne_dec' g)⟩, fun g => absurd hB (ne_dec' g)⟩, fun g => absurd hA (ne_dec' g)⟩⟩), eq11_of (rrw r1 r2 r3 r4 r5 r6 r7 r8 r9 r10 r11 r12 r13 r14 r15 r16 r17 r18 (R := eq11 (0) (0) (0) (0) (0) (0) (0) (0) (0) (0) (rtE x4 x5 x6 x7 x8 x9)) ⟨_, hse', ⟨fun _ => ⟨_, hb', ⟨fun _ => ⟨_, hp', ⟨fun _ => ⟨_, ht', ⟨fun _ => ⟨fun g => absurd (eq_of_beq g) hE, fun _ => ⟨_, _, _, _, _, hRr, ⟨fun g => absurd (eq_of_beq g) hF, fun _ => eq⟩⟩⟩, fun g => absurd hD (ne_dec' g)⟩⟩, fun g => absurd hC (ne_dec' g)⟩⟩, fun g => absurd hB (ne_dec' g)⟩⟩, fun g => absurd hA (ne_dec' g)⟩⟩), fun h => absurd h hF⟩

  by_cases hG : rtE x10 x11 x12 x13 x14 x15 = 0

  case neg =>

    have eq : eq11 (0) (0) (0) (0) (0) (0) (0) (0) (0) (0) (rtE x10 x11 x12 x13 x14 x15) (0) (0) (0) (0) (0) (0) (0) (0) (0) (0) (rtE x10 x11 x12 x13 x14 x15) := ⟨rfl, rfl, rfl, rfl, rfl, rfl, rfl, rfl, rfl, rfl, rfl⟩

    exact ⟨_, _, _, _, _, _, _, _, _, _, _, eq11_of (rdw r1 r2 r3 r4 r5 r6 r7 r8 r9 r10 r11 r12 r13 r14 r15 r16 r17 r18 (R := eq11 (0) (0) (0) (0) (0) (0) (0) (0) (0) (0) (rtE x10 x11 x12 x13 x14 x15)) ⟨_, hse, _, hb, _, hp, _, ht, ⟨fun _ => ⟨fun _ => ⟨fun _ => ⟨fun _ => ⟨fun g => absurd (eq_of_beq g) hE, fun _ => ⟨_, _, _, _, _, hRp, _, _, _, _, _, hSp, ⟨fun _ => ⟨fun g => absurd (eq_of_beq g) hG, fun _ => eq⟩, fun g => absurd hF (ne_dec' g)⟩⟩⟩, fun g => absurd hD (ne_dec' g)⟩, fun g => absurd hC (ne_dec' g)⟩, fun g => absurd hB (ne_dec' g)⟩, fun g => absurd hA (ne_dec' g)⟩⟩), eq11_of (rrw r1 r2 r3 r4 r5 r6 r7 r8 r9 r10 r11 r12 r13 r14 r15 r16 r17 r18 (R := eq11 (0) (0) (0) (0) (0) (0) (0) (0) (0) (0) (rtE x10 x11 x12 x13 x14 x15)) ⟨_, hse', ⟨fun _ => ⟨_, hb', ⟨fun _ => ⟨_, hp', ⟨fun _ => ⟨_, ht', ⟨fun _ => ⟨fun g => absurd (eq_of_beq g) hE, fun _ => ⟨_, _, _, _, _, hRr, ⟨fun _ => ⟨_, _, _, _, _, hSr, ⟨fun g => absurd (eq_of_beq g) hG, fun _ => eq⟩⟩, fun g => absurd hF (ne_dec' g)⟩⟩⟩, fun g => absurd hD (ne_dec' g)⟩⟩, fun g => absurd hC (ne_dec' g)⟩⟩, fun g => absurd hB (ne_dec' g)⟩⟩, fun g => absurd hA (ne_dec' g)⟩⟩), fun h => absurd h hG⟩

  obtain ⟨⟨i0, i1, i2⟩, ⟨i3, i4, i5⟩⟩ := rt_in hB hF hvR

  obtain ⟨⟨j0, j1, j2⟩, ⟨j3, j4, j5⟩⟩ := rt_in hC hG hvS

  have hc1 := cosine_p tk i0 i1 i2

  have hc2 := cosine_p tk j0 j1 j2

  have hn1 := number_r tk i0 i1

  have hn2 := number_r tk j0 j1

  obtain ⟨k0, k1, k2⟩ := n_rng tk i0 i1 i2

  obtain ⟨l0, l1, l2⟩ := n_rng tk j0 j1 j2

  have q0 : (-1048576) ≤ max (nL x16 x18 a0 a1) (nL x16 x18 d0 d1) ∧ max (nL x16 x18 a0 a1) (nL x16 x18 d0 d1) ≤ 1048576 := by omega

  have q1 : (-1048576) ≤ min (nH x16 x18 a0 a1) (nH x16 x18 d0 d1) ∧ min (nH x16 x18 a0 a1) (nH x16 x18 d0 d1) ≤ 1048576 := by omega

  have hs1 := sine_p tk i3 i4 q0 q1

  have hs2 := sine_p tk j3 j4 q0 q1

  have ho1 := other_r tk i3 i4 q0 q1

  have ho2 := other_r tk j3 j4 q0 q1

  obtain ⟨w0, w1, w2, _⟩ := s_rng tk i3 i4 q0 q1

  obtain ⟨z0, z1, z2, _⟩ := s_rng tk j3 j4 q0 q1

  have hk1 := cut_p w0 w1

  have hk2 := cut_p z0 z1

  rw [← ite_max (nL x16 x18 a0 a1) (nL x16 x18 d0 d1)] at hs1 hs2 ho1 ho2 hk1 hk2 q0 w2 z2

  rw [← ite_min (nH x16 x18 a0 a1) (nH x16 x18 d0 d1)] at hs1 hs2 ho1 ho2 hk1 hk2 q1 w2 z2

  by_cases hH' : (if nL x16 x18 d0 d1 > nL x16 x18 a0 a1 then nL x16 x18 d0 d1 else nL x16 x18 a0 a1) ≤ (if nH x16 x18 d0 d1 < nH x16 x18 a0 a1 then nH x16 x18 d0 d1 else nH x16 x18 a0 a1)

  case neg =>

    have hH : ¬ (decide ((if nL x16 x18 d0 d1 > nL x16 x18 a0 a1 then nL x16 x18 d0 d1 else nL x16 x18 a0 a1) ≤ (if nH x16 x18 d0 d1 < nH x16 x18 a0 a1 then nH x16 x18 d0 d1 else nH x16 x18 a0 a1)) = true) := by simpa using hH'

    have eq : eq11 (0) (0) (0) (0) (0) (0) (0) (0) (0) (0) (14) (0) (0) (0) (0) (0) (0) (0) (0) (0) (0) (14) := ⟨rfl, rfl, rfl, rfl, rfl, rfl, rfl, rfl, rfl, rfl, rfl⟩

    exact ⟨_, _, _, _, _, _, _, _, _, _, _, eq11_of (rdw r1 r2 r3 r4 r5 r6 r7 r8 r9 r10 r11 r12 r13 r14 r15 r16 r17 r18 (R := eq11 (0) (0) (0) (0) (0) (0) (0) (0) (0) (0) (14)) ⟨_, hse, _, hb, _, hp, _, ht, ⟨fun _ => ⟨fun _ => ⟨fun _ => ⟨fun _ => ⟨fun g => absurd (eq_of_beq g) hE, fun _ => ⟨_, _, _, _, _, hRp, _, _, _, _, _, hSp, ⟨fun _ => ⟨fun _ => ⟨_, _, hc1, _, _, hc2, ⟨fun g => absurd g hH, fun _ => eq⟩⟩, fun g => absurd hG (ne_dec' g)⟩, fun g => absurd hF (ne_dec' g)⟩⟩⟩, fun g => absurd hD (ne_dec' g)⟩, fun g => absurd hC (ne_dec' g)⟩, fun g => absurd hB (ne_dec' g)⟩, fun g => absurd hA (ne_dec' g)⟩⟩), eq11_of (rrw r1 r2 r3 r4 r5 r6 r7 r8 r9 r10 r11 r12 r13 r14 r15 r16 r17 r18 (R := eq11 (0) (0) (0) (0) (0) (0) (0) (0) (0) (0) (14)) ⟨_, hse', ⟨fun _ => ⟨_, hb', ⟨fun _ => ⟨_, hp', ⟨fun _ => ⟨_, ht', ⟨fun _ => ⟨fun g => absurd (eq_of_beq g) hE, fun _ => ⟨_, _, _, _, _, hRr, ⟨fun _ => ⟨_, _, _, _, _, hSr, ⟨fun _ => ⟨_, _, hn1, _, _, hn2, ⟨fun g => absurd g hH, fun _ => eq⟩⟩, fun g => absurd hG (ne_dec' g)⟩⟩, fun g => absurd hF (ne_dec' g)⟩⟩⟩, fun g => absurd hD (ne_dec' g)⟩⟩, fun g => absurd hC (ne_dec' g)⟩⟩, fun g => absurd hB (ne_dec' g)⟩⟩, fun g => absurd hA (ne_dec' g)⟩⟩), fun h => absurd h (by decide)⟩

  have hH : ¬ (decide ((if nL x16 x18 d0 d1 > nL x16 x18 a0 a1 then nL x16 x18 d0 d1 else nL x16 x18 a0 a1) ≤ (if nH x16 x18 d0 d1 < nH x16 x18 a0 a1 then nH x16 x18 d0 d1 else nH x16 x18 a0 a1)) = false) := by simpa using hH'

  by_cases hI : cutE (sL x16 x17 x18 a2 a3 (if nL x16 x18 d0 d1 > nL x16 x18 a0 a1 then nL x16 x18 d0 d1 else nL x16 x18 a0 a1) (if nH x16 x18 d0 d1 < nH x16 x18 a0 a1 then nH x16 x18 d0 d1 else nH x16 x18 a0 a1)) (sH x16 x17 x18 a2 a3 (if nL x16 x18 d0 d1 > nL x16 x18 a0 a1 then nL x16 x18 d0 d1 else nL x16 x18 a0 a1) (if nH x16 x18 d0 d1 < nH x16 x18 a0 a1 then nH x16 x18 d0 d1 else nH x16 x18 a0 a1)) = 0

  case neg =>

    have eq : eq11 (0) (0) (0) (0) (0) (0) (0) (0) (0) (0) (cutE (sL x16 x17 x18 a2 a3 (if nL x16 x18 d0 d1 > nL x16 x18 a0 a1 then nL x16 x18 d0 d1 else nL x16 x18 a0 a1) (if nH x16 x18 d0 d1 < nH x16 x18 a0 a1 then nH x16 x18 d0 d1 else nH x16 x18 a0 a1)) (sH x16 x17 x18 a2 a3 (if nL x16 x18 d0 d1 > nL x16 x18 a0 a1 then nL x16 x18 d0 d1 else nL x16 x18 a0 a1) (if nH x16 x18 d0 d1 < nH x16 x18 a0 a1 then nH x16 x18 d0 d1 else nH x16 x18 a0 a1))) (0) (0) (0) (0) (0) (0) (0) (0) (0) (0) (cutE (sL x16 x17 x18 a2 a3 (if nL x16 x18 d0 d1 > nL x16 x18 a0 a1 then nL x16 x18 d0 d1 else nL x16 x18 a0 a1) (if nH x16 x18 d0 d1 < nH x16 x18 a0 a1 then nH x16 x18 d0 d1 else nH x16 x18 a0 a1)) (sH x16 x17 x18 a2 a3 (if nL x16 x18 d0 d1 > nL x16 x18 a0 a1 then nL x16 x18 d0 d1 else nL x16 x18 a0 a1) (if nH x16 x18 d0 d1 < nH x16 x18 a0 a1 then nH x16 x18 d0 d1 else nH x16 x18 a0 a1))) := ⟨rfl, rfl, rfl, rfl, rfl, rfl, rfl, rfl, rfl, rfl, rfl⟩

    exact ⟨_, _, _, _, _, _, _, _, _, _, _, eq11_of (rdw r1 r2 r3 r4 r5 r6 r7 r8 r9 r10 r11 r12 r13 r14 r15 r16 r17 r18 (R := eq11 (0) (0) (0) (0) (0) (0) (0) (0) (0) (0) (cutE (sL x16 x17 x18 a2 a3 (if nL x16 x18 d0 d1 > nL x16 x18 a0 a1 then nL x16 x18 d0 d1 else nL x16 x18 a0 a1) (if nH x16 x18 d0 d1 < nH x16 x18 a0 a1 then nH x16 x18 d0 d1 else nH x16 x18 a0 a1)) (sH x16 x17 x18 a2 a3 (if nL x16 x18 d0 d1 > nL x16 x18 a0 a1 then nL x16 x18 d0 d1 else nL x16 x18 a0 a1) (if nH x16 x18 d0 d1 < nH x16 x18 a0 a1 then nH x16 x18 d0 d1 else nH x16 x18 a0 a1)))) ⟨_, hse, _, hb, _, hp, _, ht, ⟨fun _ => ⟨fun _ => ⟨fun _ => ⟨fun _ => ⟨fun g => absurd (eq_of_beq g) hE, fun _ => ⟨_, _, _, _, _, hRp, _, _, _, _, _, hSp, ⟨fun _ => ⟨fun _ => ⟨_, _, hc1, _, _, hc2, ⟨fun _ => ⟨_, _, hs1, _, _, _, hk1, _, _, hs2, _, _, _, hk2, ⟨fun g => absurd (eq_of_beq g) hI, fun _ => eq⟩⟩, fun g => absurd g hH⟩⟩, fun g => absurd hG (ne_dec' g)⟩, fun g => absurd hF (ne_dec' g)⟩⟩⟩, fun g => absurd hD (ne_dec' g)⟩, fun g => absurd hC (ne_dec' g)⟩, fun g => absurd hB (ne_dec' g)⟩, fun g => absurd hA (ne_dec' g)⟩⟩), eq11_of (rrw r1 r2 r3 r4 r5 r6 r7 r8 r9 r10 r11 r12 r13 r14 r15 r16 r17 r18 (R := eq11 (0) (0) (0) (0) (0) (0) (0) (0) (0) (0) (cutE (sL x16 x17 x18 a2 a3 (if nL x16 x18 d0 d1 > nL x16 x18 a0 a1 then nL x16 x18 d0 d1 else nL x16 x18 a0 a1) (if nH x16 x18 d0 d1 < nH x16 x18 a0 a1 then nH x16 x18 d0 d1 else nH x16 x18 a0 a1)) (sH x16 x17 x18 a2 a3 (if nL x16 x18 d0 d1 > nL x16 x18 a0 a1 then nL x16 x18 d0 d1 else nL x16 x18 a0 a1) (if nH x16 x18 d0 d1 < nH x16 x18 a0 a1 then nH x16 x18 d0 d1 else nH x16 x18 a0 a1)))) ⟨_, hse', ⟨fun _ => ⟨_, hb', ⟨fun _ => ⟨_, hp', ⟨fun _ => ⟨_, ht', ⟨fun _ => ⟨fun g => absurd (eq_of_beq g) hE, fun _ => ⟨_, _, _, _, _, hRr, ⟨fun _ => ⟨_, _, _, _, _, hSr, ⟨fun _ => ⟨_, _, hn1, _, _, hn2, ⟨fun _ => ⟨_, _, _, ho1, ⟨fun g => absurd (eq_of_beq g) hI, fun _ => eq⟩⟩, fun g => absurd g hH⟩⟩, fun g => absurd hG (ne_dec' g)⟩⟩, fun g => absurd hF (ne_dec' g)⟩⟩⟩, fun g => absurd hD (ne_dec' g)⟩⟩, fun g => absurd hC (ne_dec' g)⟩⟩, fun g => absurd hB (ne_dec' g)⟩⟩, fun g => absurd hA (ne_dec' g)⟩⟩), fun h => absurd h hI⟩

  by_cases hJ : cutE (sL x16 x17 x18 d2 d3 (if nL x16 x18 d0 d1 > nL x16 x18 a0 a1 then nL x16 x18 d0 d1 else nL x16 x18 a0 a1) (if nH x16 x18 d0 d1 < nH x16 x18 a0 a1 then nH x16 x18 d0 d1 else nH x16 x18 a0 a1)) (sH x16 x17 x18 d2 d3 (if nL x16 x18 d0 d1 > nL x16 x18 a0 a1 then nL x16 x18 d0 d1 else nL x16 x18 a0 a1) (if nH x16 x18 d0 d1 < nH x16 x18 a0 a1 then nH x16 x18 d0 d1 else nH x16 x18 a0 a1)) = 0

  case neg =>

    have eq : eq11 (0) (0) (0) (0) (0) (0) (0) (0) (0) (0) (cutE (sL x16 x17 x18 d2 d3 (if nL x16 x18 d0 d1 > nL x16 x18 a0 a1 then nL x16 x18 d0 d1 else nL x16 x18 a0 a1) (if nH x16 x18 d0 d1 < nH x16 x18 a0 a1 then nH x16 x18 d0 d1 else nH x16 x18 a0 a1)) (sH x16 x17 x18 d2 d3 (if nL x16 x18 d0 d1 > nL x16 x18 a0 a1 then nL x16 x18 d0 d1 else nL x16 x18 a0 a1) (if nH x16 x18 d0 d1 < nH x16 x18 a0 a1 then nH x16 x18 d0 d1 else nH x16 x18 a0 a1))) (0) (0) (0) (0) (0) (0) (0) (0) (0) (0) (cutE (sL x16 x17 x18 d2 d3 (if nL x16 x18 d0 d1 > nL x16 x18 a0 a1 then nL x16 x18 d0 d1 else nL x16 x18 a0 a1) (if nH x16 x18 d0 d1 < nH x16 x18 a0 a1 then nH x16 x18 d0 d1 else nH x16 x18 a0 a1)) (sH x16 x17 x18 d2 d3 (if nL x16 x18 d0 d1 > nL x16 x18 a0 a1 then nL x16 x18 d0 d1 else nL x16 x18 a0 a1) (if nH x16 x18 d0 d1 < nH x16 x18 a0 a1 then nH x16 x18 d0 d1 else nH x16 x18 a0 a1))) := ⟨rfl, rfl, rfl, rfl, rfl, rfl, rfl, rfl, rfl, rfl, rfl⟩

    exact ⟨_, _, _, _, _, _, _, _, _, _, _, eq11_of (rdw r1 r2 r3 r4 r5 r6 r7 r8 r9 r10 r11 r12 r13 r14 r15 r16 r17 r18 (R := eq11 (0) (0) (0) (0) (0) (0) (0) (0) (0) (0) (cutE (sL x16 x17 x18 d2 d3 (if nL x16 x18 d0 d1 > nL x16 x18 a0 a1 then nL x16 x18 d0 d1 else nL x16 x18 a0 a1) (if nH x16 x18 d0 d1 < nH x16 x18 a0 a1 then nH x16 x18 d0 d1 else nH x16 x18 a0 a1)) (sH x16 x17 x18 d2 d3 (if nL x16 x18 d0 d1 > nL x16 x18 a0 a1 then nL x16 x18 d0 d1 else nL x16 x18 a0 a1) (if nH x16 x18 d0 d1 < nH x16 x18 a0 a1 then nH x16 x18 d0 d1 else nH x16 x18 a0 a1)))) ⟨_, hse, _, hb, _, hp, _, ht, ⟨fun _ => ⟨fun _ => ⟨fun _ => ⟨fun _ => ⟨fun g => absurd (eq_of_beq g) hE, fun _ => ⟨_, _, _, _, _, hRp, _, _, _, _, _, hSp, ⟨fun _ => ⟨fun _ => ⟨_, _, hc1, _, _, hc2, ⟨fun _ => ⟨_, _, hs1, _, _, _, hk1, _, _, hs2, _, _, _, hk2, ⟨fun _ => ⟨fun g => absurd (eq_of_beq g) hJ, fun _ => eq⟩, fun g => absurd hI (ne_dec' g)⟩⟩, fun g => absurd g hH⟩⟩, fun g => absurd hG (ne_dec' g)⟩, fun g => absurd hF (ne_dec' g)⟩⟩⟩, fun g => absurd hD (ne_dec' g)⟩, fun g => absurd hC (ne_dec' g)⟩, fun g => absurd hB (ne_dec' g)⟩, fun g => absurd hA (ne_dec' g)⟩⟩), eq11_of (rrw r1 r2 r3 r4 r5 r6 r7 r8 r9 r10 r11 r12 r13 r14 r15 r16 r17 r18 (R := eq11 (0) (0) (0) (0) (0) (0) (0) (0) (0) (0) (cutE (sL x16 x17 x18 d2 d3 (if nL x16 x18 d0 d1 > nL x16 x18 a0 a1 then nL x16 x18 d0 d1 else nL x16 x18 a0 a1) (if nH x16 x18 d0 d1 < nH x16 x18 a0 a1 then nH x16 x18 d0 d1 else nH x16 x18 a0 a1)) (sH x16 x17 x18 d2 d3 (if nL x16 x18 d0 d1 > nL x16 x18 a0 a1 then nL x16 x18 d0 d1 else nL x16 x18 a0 a1) (if nH x16 x18 d0 d1 < nH x16 x18 a0 a1 then nH x16 x18 d0 d1 else nH x16 x18 a0 a1)))) ⟨_, hse', ⟨fun _ => ⟨_, hb', ⟨fun _ => ⟨_, hp', ⟨fun _ => ⟨_, ht', ⟨fun _ => ⟨fun g => absurd (eq_of_beq g) hE, fun _ => ⟨_, _, _, _, _, hRr, ⟨fun _ => ⟨_, _, _, _, _, hSr, ⟨fun _ => ⟨_, _, hn1, _, _, hn2, ⟨fun _ => ⟨_, _, _, ho1, ⟨fun _ => ⟨_, _, _, ho2, ⟨fun g => absurd (eq_of_beq g) hJ, fun _ => eq⟩⟩, fun g => absurd hI (ne_dec' g)⟩⟩, fun g => absurd g hH⟩⟩, fun g => absurd hG (ne_dec' g)⟩⟩, fun g => absurd hF (ne_dec' g)⟩⟩⟩, fun g => absurd hD (ne_dec' g)⟩⟩, fun g => absurd hC (ne_dec' g)⟩⟩, fun g => absurd hB (ne_dec' g)⟩⟩, fun g => absurd hA (ne_dec' g)⟩⟩), fun h => absurd h hJ⟩

  have eq : eq11 (x0) (x1) (x2) (x3) ((if nL x16 x18 d0 d1 > nL x16 x18 a0 a1 then nL x16 x18 d0 d1 else nL x16 x18 a0 a1)) ((if nH x16 x18 d0 d1 < nH x16 x18 a0 a1 then nH x16 x18 d0 d1 else nH x16 x18 a0 a1)) (cutL (sL x16 x17 x18 a2 a3 (if nL x16 x18 d0 d1 > nL x16 x18 a0 a1 then nL x16 x18 d0 d1 else nL x16 x18 a0 a1) (if nH x16 x18 d0 d1 < nH x16 x18 a0 a1 then nH x16 x18 d0 d1 else nH x16 x18 a0 a1)) (sH x16 x17 x18 a2 a3 (if nL x16 x18 d0 d1 > nL x16 x18 a0 a1 then nL x16 x18 d0 d1 else nL x16 x18 a0 a1) (if nH x16 x18 d0 d1 < nH x16 x18 a0 a1 then nH x16 x18 d0 d1 else nH x16 x18 a0 a1))) (cutH (sL x16 x17 x18 a2 a3 (if nL x16 x18 d0 d1 > nL x16 x18 a0 a1 then nL x16 x18 d0 d1 else nL x16 x18 a0 a1) (if nH x16 x18 d0 d1 < nH x16 x18 a0 a1 then nH x16 x18 d0 d1 else nH x16 x18 a0 a1)) (sH x16 x17 x18 a2 a3 (if nL x16 x18 d0 d1 > nL x16 x18 a0 a1 then nL x16 x18 d0 d1 else nL x16 x18 a0 a1) (if nH x16 x18 d0 d1 < nH x16 x18 a0 a1 then nH x16 x18 d0 d1 else nH x16 x18 a0 a1))) (cutL (sL x16 x17 x18 d2 d3 (if nL x16 x18 d0 d1 > nL x16 x18 a0 a1 then nL x16 x18 d0 d1 else nL x16 x18 a0 a1) (if nH x16 x18 d0 d1 < nH x16 x18 a0 a1 then nH x16 x18 d0 d1 else nH x16 x18 a0 a1)) (sH x16 x17 x18 d2 d3 (if nL x16 x18 d0 d1 > nL x16 x18 a0 a1 then nL x16 x18 d0 d1 else nL x16 x18 a0 a1) (if nH x16 x18 d0 d1 < nH x16 x18 a0 a1 then nH x16 x18 d0 d1 else nH x16 x18 a0 a1))) (cutH (sL x16 x17 x18 d2 d3 (if nL x16 x18 d0 d1 > nL x16 x18 a0 a1 then nL x16 x18 d0 d1 else nL x16 x18 a0 a1) (if nH x16 x18 d0 d1 < nH x16 x18 a0 a1 then nH x16 x18 d0 d1 else nH x16 x18 a0 a1)) (sH x16 x17 x18 d2 d3 (if nL x16 x18 d0 d1 > nL x16 x18 a0 a1 then nL x16 x18 d0 d1 else nL x16 x18 a0 a1) (if nH x16 x18 d0 d1 < nH x16 x18 a0 a1 then nH x16 x18 d0 d1 else nH x16 x18 a0 a1))) (0) (x0) (x1) (x2) (x3) ((if nL x16 x18 d0 d1 > nL x16 x18 a0 a1 then nL x16 x18 d0 d1 else nL x16 x18 a0 a1)) ((if nH x16 x18 d0 d1 < nH x16 x18 a0 a1 then nH x16 x18 d0 d1 else nH x16 x18 a0 a1)) (cutL (sL x16 x17 x18 a2 a3 (if nL x16 x18 d0 d1 > nL x16 x18 a0 a1 then nL x16 x18 d0 d1 else nL x16 x18 a0 a1) (if nH x16 x18 d0 d1 < nH x16 x18 a0 a1 then nH x16 x18 d0 d1 else nH x16 x18 a0 a1)) (sH x16 x17 x18 a2 a3 (if nL x16 x18 d0 d1 > nL x16 x18 a0 a1 then nL x16 x18 d0 d1 else nL x16 x18 a0 a1) (if nH x16 x18 d0 d1 < nH x16 x18 a0 a1 then nH x16 x18 d0 d1 else nH x16 x18 a0 a1))) (cutH (sL x16 x17 x18 a2 a3 (if nL x16 x18 d0 d1 > nL x16 x18 a0 a1 then nL x16 x18 d0 d1 else nL x16 x18 a0 a1) (if nH x16 x18 d0 d1 < nH x16 x18 a0 a1 then nH x16 x18 d0 d1 else nH x16 x18 a0 a1)) (sH x16 x17 x18 a2 a3 (if nL x16 x18 d0 d1 > nL x16 x18 a0 a1 then nL x16 x18 d0 d1 else nL x16 x18 a0 a1) (if nH x16 x18 d0 d1 < nH x16 x18 a0 a1 then nH x16 x18 d0 d1 else nH x16 x18 a0 a1))) (cutL (sL x16 x17 x18 d2 d3 (if nL x16 x18 d0 d1 > nL x16 x18 a0 a1 then nL x16 x18 d0 d1 else nL x16 x18 a0 a1) (if nH x16 x18 d0 d1 < nH x16 x18 a0 a1 then nH x16 x18 d0 d1 else nH x16 x18 a0 a1)) (sH x16 x17 x18 d2 d3 (if nL x16 x18 d0 d1 > nL x16 x18 a0 a1 then nL x16 x18 d0 d1 else nL x16 x18 a0 a1) (if nH x16 x18 d0 d1 < nH x16 x18 a0 a1 then nH x16 x18 d0 d1 else nH x16 x18 a0 a1))) (cutH (sL x16 x17 x18 d2 d3 (if nL x16 x18 d0 d1 > nL x16 x18 a0 a1 then nL x16 x18 d0 d1 else nL x16 x18 a0 a1) (if nH x16 x18 d0 d1 < nH x16 x18 a0 a1 then nH x16 x18 d0 d1 else nH x16 x18 a0 a1)) (sH x16 x17 x18 d2 d3 (if nL x16 x18 d0 d1 > nL x16 x18 a0 a1 then nL x16 x18 d0 d1 else nL x16 x18 a0 a1) (if nH x16 x18 d0 d1 < nH x16 x18 a0 a1 then nH x16 x18 d0 d1 else nH x16 x18 a0 a1))) (0) := ⟨rfl, rfl, rfl, rfl, rfl, rfl, rfl, rfl, rfl, rfl, rfl⟩

  exact ⟨_, _, _, _, _, _, _, _, _, _, _, eq11_of (rdw r1 r2 r3 r4 r5 r6 r7 r8 r9 r10 r11 r12 r13 r14 r15 r16 r17 r18 (R := eq11 (x0) (x1) (x2) (x3) ((if nL x16 x18 d0 d1 > nL x16 x18 a0 a1 then nL x16 x18 d0 d1 else nL x16 x18 a0 a1)) ((if nH x16 x18 d0 d1 < nH x16 x18 a0 a1 then nH x16 x18 d0 d1 else nH x16 x18 a0 a1)) (cutL (sL x16 x17 x18 a2 a3 (if nL x16 x18 d0 d1 > nL x16 x18 a0 a1 then nL x16 x18 d0 d1 else nL x16 x18 a0 a1) (if nH x16 x18 d0 d1 < nH x16 x18 a0 a1 then nH x16 x18 d0 d1 else nH x16 x18 a0 a1)) (sH x16 x17 x18 a2 a3 (if nL x16 x18 d0 d1 > nL x16 x18 a0 a1 then nL x16 x18 d0 d1 else nL x16 x18 a0 a1) (if nH x16 x18 d0 d1 < nH x16 x18 a0 a1 then nH x16 x18 d0 d1 else nH x16 x18 a0 a1))) (cutH (sL x16 x17 x18 a2 a3 (if nL x16 x18 d0 d1 > nL x16 x18 a0 a1 then nL x16 x18 d0 d1 else nL x16 x18 a0 a1) (if nH x16 x18 d0 d1 < nH x16 x18 a0 a1 then nH x16 x18 d0 d1 else nH x16 x18 a0 a1)) (sH x16 x17 x18 a2 a3 (if nL x16 x18 d0 d1 > nL x16 x18 a0 a1 then nL x16 x18 d0 d1 else nL x16 x18 a0 a1) (if nH x16 x18 d0 d1 < nH x16 x18 a0 a1 then nH x16 x18 d0 d1 else nH x16 x18 a0 a1))) (cutL (sL x16 x17 x18 d2 d3 (if nL x16 x18 d0 d1 > nL x16 x18 a0 a1 then nL x16 x18 d0 d1 else nL x16 x18 a0 a1) (if nH x16 x18 d0 d1 < nH x16 x18 a0 a1 then nH x16 x18 d0 d1 else nH x16 x18 a0 a1)) (sH x16 x17 x18 d2 d3 (if nL x16 x18 d0 d1 > nL x16 x18 a0 a1 then nL x16 x18 d0 d1 else nL x16 x18 a0 a1) (if nH x16 x18 d0 d1 < nH x16 x18 a0 a1 then nH x16 x18 d0 d1 else nH x16 x18 a0 a1))) (cutH (sL x16 x17 x18 d2 d3 (if nL x16 x18 d0 d1 > nL x16 x18 a0 a1 then nL x16 x18 d0 d1 else nL x16 x18 a0 a1) (if nH x16 x18 d0 d1 < nH x16 x18 a0 a1 then nH x16 x18 d0 d1 else nH x16 x18 a0 a1)) (sH x16 x17 x18 d2 d3 (if nL x16 x18 d0 d1 > nL x16 x18 a0 a1 then nL x16 x18 d0 d1 else nL x16 x18 a0 a1) (if nH x16 x18 d0 d1 < nH x16 x18 a0 a1 then nH x16 x18 d0 d1 else nH x16 x18 a0 a1))) (0)) ⟨_, hse, _, hb, _, hp, _, ht, ⟨fun _ => ⟨fun _ => ⟨fun _ => ⟨fun _ => ⟨fun g => absurd (eq_of_beq g) hE, fun _ => ⟨_, _, _, _, _, hRp, _, _, _, _, _, hSp, ⟨fun _ => ⟨fun _ => ⟨_, _, hc1, _, _, hc2, ⟨fun _ => ⟨_, _, hs1, _, _, _, hk1, _, _, hs2, _, _, _, hk2, ⟨fun _ => ⟨fun _ => eq, fun g => absurd hJ (ne_dec' g)⟩, fun g => absurd hI (ne_dec' g)⟩⟩, fun g => absurd g hH⟩⟩, fun g => absurd hG (ne_dec' g)⟩, fun g => absurd hF (ne_dec' g)⟩⟩⟩, fun g => absurd hD (ne_dec' g)⟩, fun g => absurd hC (ne_dec' g)⟩, fun g => absurd hB (ne_dec' g)⟩, fun g => absurd hA (ne_dec' g)⟩⟩), eq11_of (rrw r1 r2 r3 r4 r5 r6 r7 r8 r9 r10 r11 r12 r13 r14 r15 r16 r17 r18 (R := eq11 (x0) (x1) (x2) (x3) ((if nL x16 x18 d0 d1 > nL x16 x18 a0 a1 then nL x16 x18 d0 d1 else nL x16 x18 a0 a1)) ((if nH x16 x18 d0 d1 < nH x16 x18 a0 a1 then nH x16 x18 d0 d1 else nH x16 x18 a0 a1)) (cutL (sL x16 x17 x18 a2 a3 (if nL x16 x18 d0 d1 > nL x16 x18 a0 a1 then nL x16 x18 d0 d1 else nL x16 x18 a0 a1) (if nH x16 x18 d0 d1 < nH x16 x18 a0 a1 then nH x16 x18 d0 d1 else nH x16 x18 a0 a1)) (sH x16 x17 x18 a2 a3 (if nL x16 x18 d0 d1 > nL x16 x18 a0 a1 then nL x16 x18 d0 d1 else nL x16 x18 a0 a1) (if nH x16 x18 d0 d1 < nH x16 x18 a0 a1 then nH x16 x18 d0 d1 else nH x16 x18 a0 a1))) (cutH (sL x16 x17 x18 a2 a3 (if nL x16 x18 d0 d1 > nL x16 x18 a0 a1 then nL x16 x18 d0 d1 else nL x16 x18 a0 a1) (if nH x16 x18 d0 d1 < nH x16 x18 a0 a1 then nH x16 x18 d0 d1 else nH x16 x18 a0 a1)) (sH x16 x17 x18 a2 a3 (if nL x16 x18 d0 d1 > nL x16 x18 a0 a1 then nL x16 x18 d0 d1 else nL x16 x18 a0 a1) (if nH x16 x18 d0 d1 < nH x16 x18 a0 a1 then nH x16 x18 d0 d1 else nH x16 x18 a0 a1))) (cutL (sL x16 x17 x18 d2 d3 (if nL x16 x18 d0 d1 > nL x16 x18 a0 a1 then nL x16 x18 d0 d1 else nL x16 x18 a0 a1) (if nH x16 x18 d0 d1 < nH x16 x18 a0 a1 then nH x16 x18 d0 d1 else nH x16 x18 a0 a1)) (sH x16 x17 x18 d2 d3 (if nL x16 x18 d0 d1 > nL x16 x18 a0 a1 then nL x16 x18 d0 d1 else nL x16 x18 a0 a1) (if nH x16 x18 d0 d1 < nH x16 x18 a0 a1 then nH x16 x18 d0 d1 else nH x16 x18 a0 a1))) (cutH (sL x16 x17 x18 d2 d3 (if nL x16 x18 d0 d1 > nL x16 x18 a0 a1 then nL x16 x18 d0 d1 else nL x16 x18 a0 a1) (if nH x16 x18 d0 d1 < nH x16 x18 a0 a1 then nH x16 x18 d0 d1 else nH x16 x18 a0 a1)) (sH x16 x17 x18 d2 d3 (if nL x16 x18 d0 d1 > nL x16 x18 a0 a1 then nL x16 x18 d0 d1 else nL x16 x18 a0 a1) (if nH x16 x18 d0 d1 < nH x16 x18 a0 a1 then nH x16 x18 d0 d1 else nH x16 x18 a0 a1))) (0)) ⟨_, hse', ⟨fun _ => ⟨_, hb', ⟨fun _ => ⟨_, hp', ⟨fun _ => ⟨_, ht', ⟨fun _ => ⟨fun g => absurd (eq_of_beq g) hE, fun _ => ⟨_, _, _, _, _, hRr, ⟨fun _ => ⟨_, _, _, _, _, hSr, ⟨fun _ => ⟨_, _, hn1, _, _, hn2, ⟨fun _ => ⟨_, _, _, ho1, ⟨fun _ => ⟨_, _, _, ho2, ⟨fun _ => eq, fun g => absurd hJ (ne_dec' g)⟩⟩, fun g => absurd hI (ne_dec' g)⟩⟩, fun g => absurd g hH⟩⟩, fun g => absurd hG (ne_dec' g)⟩⟩, fun g => absurd hF (ne_dec' g)⟩⟩⟩, fun g => absurd hD (ne_dec' g)⟩⟩, fun g => absurd hC (ne_dec' g)⟩⟩, fun g => absurd hB (ne_dec' g)⟩⟩, fun g => absurd hA (ne_dec' g)⟩⟩), fun _ => ⟨rfl, rfl, rfl, rfl, ⟨u, n1, hA⟩, by unfold re; rw [if_pos ⟨q0.1, q0.2, q1.1, q1.2⟩, if_pos hH'], cut_in hI w2, cut_in hJ z2⟩⟩



set_option maxHeartbeats 4000000 in

theorem meterReads {x0 x1 x2 x3 x4 x5 x6 x7 x8 x9 x10 x11 x12 x13 x14 x15 x16 x17 x18 : Int} (r1 : (-9223372036854775808) ≤ x1 ∧ x1 ≤ 9223372036854775807) (r2 : (-9223372036854775808) ≤ x2 ∧ x2 ≤ 9223372036854775807) (r3 : (-9223372036854775808) ≤ x3 ∧ x3 ≤ 9223372036854775807) (r4 : (-9223372036854775808) ≤ x4 ∧ x4 ≤ 9223372036854775807) (r5 : (-9223372036854775808) ≤ x5 ∧ x5 ≤ 9223372036854775807) (r6 : (-9223372036854775808) ≤ x6 ∧ x6 ≤ 9223372036854775807) (r7 : (-9223372036854775808) ≤ x7 ∧ x7 ≤ 9223372036854775807) (r8 : (-9223372036854775808) ≤ x8 ∧ x8 ≤ 9223372036854775807) (r9 : (-9223372036854775808) ≤ x9 ∧ x9 ≤ 9223372036854775807) (r10 : (-9223372036854775808) ≤ x10 ∧ x10 ≤ 9223372036854775807) (r11 : (-9223372036854775808) ≤ x11 ∧ x11 ≤ 9223372036854775807) (r12 : (-9223372036854775808) ≤ x12 ∧ x12 ≤ 9223372036854775807) (r13 : (-9223372036854775808) ≤ x13 ∧ x13 ≤ 9223372036854775807) (r14 : (-9223372036854775808) ≤ x14 ∧ x14 ≤ 9223372036854775807) (r15 : (-9223372036854775808) ≤ x15 ∧ x15 ≤ 9223372036854775807) (r16 : (-9223372036854775808) ≤ x16 ∧ x16 ≤ 9223372036854775807) (r17 : (-9223372036854775808) ≤ x17 ∧ x17 ≤ 9223372036854775807) (r18 : (-9223372036854775808) ≤ x18 ∧ x18 ≤ 9223372036854775807) :

    Spec Tryz.prog etalonlaw06_MeterReads_s ⟨[x0, x1, x2, x3, x4, x5, x6, x7, x8, x9, x10, x11, x12, x13, x14, x15, x16, x17, x18], [], []⟩ [] [true] [] := by

  obtain ⟨u, rfl, ha⟩ := awake

  obtain ⟨v0, v1, v2, v3, v4, v5, v6, v7, v8, v9, v10, hP, hR, hK⟩ := reading (x0 := x0) r1 r2 r3 r4 r5 r6 r7 r8 r9 r10 r11 r12 r13 r14 r15 r16 r17 r18

  obtain ⟨u, rfl, hs⟩ := mrd r1 r2 r3 r4 r5 r6 r7 r8 r9 r10 r11 r12 r13 r14 r15 r16 r17 r18 (R := (· = true)) ⟨true, ha, fun _ => ⟨_, _, _, _, _, _, _, _, _, _, _, hP, _, _, _, _, _, _, _, _, _, _, _, hR, by

    (iterate 11 refine ⟨fun _ => ?_, fun h9 => absurd h9 (by simp)⟩)

    refine ⟨fun h0 => ?_, fun _ => rfl⟩

    obtain ⟨rfl, rfl, rfl, rfl, ⟨u, hu, hse⟩, e1, e2, e3⟩ := hK (eq_of_beq h0)

    have in1 := re_ok e1

    have in2 := re_ok e2

    have in3 := re_ok e3

    have hc := checkReading_p hu r1 r2 r3 (x4 := v4) (x5 := v5) (x6 := v6) (x7 := v7) (x8 := v8) (x9 := v9) (by omega) (by omega) (by omega) (by omega) (by omega) (by omega)

    have e : rdE u v1 v2 v3 v4 v5 v6 v7 v8 v9 = 0 := by unfold rdE fe; rw [if_pos hse, if_pos e1, if_pos e2, e3]

    rw [e] at hc

    exact ⟨_, hc, rfl⟩⟩, fun h => by cases h⟩

  exact hs

end Go.Proofs.YtpjcjdhidfnbbaaGreat.Ev
