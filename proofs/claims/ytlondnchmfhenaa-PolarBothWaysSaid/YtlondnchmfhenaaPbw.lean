/- PolarBothWays: walked. -/
import Derived.Test.YtlondnchmfhenaaPbwa
import Derived.Test.YtlondnchmfhenaaPbwb
import Derived.Test.YtlondnchmfhenaaPbwc
import Derived.Test.YtlondnchmfhenaaPbwd
namespace Go.Proofs.Ytlondnchmfhenaa.Ev
set_option linter.unusedSimpArgs false
open Go Go.RowKit
set_option maxRecDepth 100000
set_option maxHeartbeats 8000000 in
theorem pb {a0 a1 a2 a3 a4 a5 a6 a7 b0 b1 b2 b3 b4 b5 b6 b7 v0 v1 v2 v3 : Int} (r0 : (-10) ≤ a0 ∧ a0 ≤ 10) (r1 : (-10) ≤ a1 ∧ a1 ≤ 10) (r2 : (-10) ≤ a2 ∧ a2 ≤ 10) (r3 : (-10) ≤ a3 ∧ a3 ≤ 10) (r4 : (-10) ≤ a4 ∧ a4 ≤ 10) (r5 : (-10) ≤ a5 ∧ a5 ≤ 10) (r6 : (-10) ≤ a6 ∧ a6 ≤ 10) (r7 : (-10) ≤ a7 ∧ a7 ≤ 10) (r8 : (-10) ≤ b0 ∧ b0 ≤ 10) (r9 : (-10) ≤ b1 ∧ b1 ≤ 10) (r10 : (-10) ≤ b2 ∧ b2 ≤ 10) (r11 : (-10) ≤ b3 ∧ b3 ≤ 10) (r12 : (-10) ≤ b4 ∧ b4 ≤ 10) (r13 : (-10) ≤ b5 ∧ b5 ≤ 10) (r14 : (-10) ≤ b6 ∧ b6 ≤ 10) (r15 : (-10) ≤ b7 ∧ b7 ≤ 10) (r16 : (-10) ≤ v0 ∧ v0 ≤ 10) (r17 : (-10) ≤ v1 ∧ v1 ≤ 10) (r18 : (-10) ≤ v2 ∧ v2 ≤ 10) (r19 : (-10) ≤ v3 ∧ v3 ≤ 10) {Q : Value → Prop} (H :
  ((∀ w, Calls Try.prog 20 #[] w fun e w' => e = .returned (.bool (true)) ∧ Below w.heap.size w w') ∧
   (∃ v20 : Int, ∃ v21 : Int, ∃ v22 : Int, ∃ v23 : Int, ∃ v24 : Int, (∀ w, Calls Try.prog 23 #[.agg #[.complex .f64 (FloatKind.f64.nearest a0) (FloatKind.f64.nearest a1), .complex .f64 (FloatKind.f64.nearest a2) (FloatKind.f64.nearest a3), .complex .f64 (FloatKind.f64.nearest a4) (FloatKind.f64.nearest a5), .complex .f64 (FloatKind.f64.nearest a6) (FloatKind.f64.nearest a7)], .agg #[.complex .f64 (FloatKind.f64.nearest v0) (FloatKind.f64.nearest v1), .complex .f64 (FloatKind.f64.nearest v2) (FloatKind.f64.nearest v3)]] w fun e w' => e = .returned (.tuple #[.agg #[.complex .f64 (v20 : Int).toNat (v21 : Int).toNat, .complex .f64 (v22 : Int).toNat (v23 : Int).toNat], .int .i64 (v24)]) ∧ Below w.heap.size w w') ∧
   ((0 ≤ v24 ∧ v24 ≤ 0) ∧ (∃ v25 : Int, ∃ v26 : Int, ∃ v27 : Int, ∃ v28 : Int, ∃ v29 : Int, (∀ w, Calls Try.prog 21 #[.agg #[.complex .f64 (FloatKind.f64.nearest v0) (FloatKind.f64.nearest v1), .complex .f64 (FloatKind.f64.nearest v2) (FloatKind.f64.nearest v3)]] w fun e w' => e = .returned (.tuple #[.agg #[.int .i64 (v25), .int .i64 (v26), .int .i64 (v27), .int .i64 (v28)], .int .i64 (v29)]) ∧ Below w.heap.size w w') ∧
   ((0 ≤ v29 ∧ v29 ≤ 0) ∧ (∃ v30 : Int, ∃ v31 : Int, ∃ v32 : Int, ∃ v33 : Int, ∃ v34 : Int, (∀ w, Calls Try.prog 21 #[.agg #[.complex .f64 (v20 : Int).toNat (v21 : Int).toNat, .complex .f64 (v22 : Int).toNat (v23 : Int).toNat]] w fun e w' => e = .returned (.tuple #[.agg #[.int .i64 (v30), .int .i64 (v31), .int .i64 (v32), .int .i64 (v33)], .int .i64 (v34)]) ∧ Below w.heap.size w w') ∧
   ((0 ≤ v34 ∧ v34 ≤ 0) ∧ (∃ v35 : Int, ∃ v36 : Int, ∃ v37 : Int, ∃ v38 : Int, ∃ v39 : Int, ∃ v40 : Int, ∃ v41 : Int, ∃ v42 : Int, ∃ v43 : Int, ∃ v44 : Int, ∃ v45 : Int, ∃ v46 : Int, ∃ v47 : Int, ∃ v48 : Int, ∃ v49 : Int, ∃ v50 : Int, ∃ v51 : Int, (∀ w, Calls Try.prog 53 #[.agg #[.complex .f64 (FloatKind.f64.nearest a0) (FloatKind.f64.nearest a1), .complex .f64 (FloatKind.f64.nearest a2) (FloatKind.f64.nearest a3), .complex .f64 (FloatKind.f64.nearest a4) (FloatKind.f64.nearest a5), .complex .f64 (FloatKind.f64.nearest a6) (FloatKind.f64.nearest a7)]] w fun e w' => e = .returned (.tuple #[.agg #[.int .i64 (v35), .int .i64 (v36), .int .i64 (v37), .int .i64 (v38), .int .i64 (v39), .int .i64 (v40), .int .i64 (v41), .int .i64 (v42), .int .i64 (v43), .int .i64 (v44), .int .i64 (v45), .int .i64 (v46), .int .i64 (v47), .int .i64 (v48), .int .i64 (v49), .int .i64 (v50)], .int .i64 (v51)]) ∧ Below w.heap.size w w') ∧
   ((0 ≤ v51 ∧ v51 ≤ 0) ∧ (∃ v52 : Int, ∃ v53 : Int, ∃ v54 : Int, ∃ v55 : Int, ∃ v56 : Int, ∃ v57 : Int, ∃ v58 : Int, ∃ v59 : Int, ∃ v60 : Int, ∃ v61 : Int, ∃ v62 : Int, ∃ v63 : Int, ∃ v64 : Int, ∃ v65 : Int, ∃ v66 : Int, ∃ v67 : Int, ∃ v68 : Int, (∀ w, Calls Try.prog 53 #[.agg #[.complex .f64 (FloatKind.f64.nearest b0) (FloatKind.f64.nearest b1), .complex .f64 (FloatKind.f64.nearest b2) (FloatKind.f64.nearest b3), .complex .f64 (FloatKind.f64.nearest b4) (FloatKind.f64.nearest b5), .complex .f64 (FloatKind.f64.nearest b6) (FloatKind.f64.nearest b7)]] w fun e w' => e = .returned (.tuple #[.agg #[.int .i64 (v52), .int .i64 (v53), .int .i64 (v54), .int .i64 (v55), .int .i64 (v56), .int .i64 (v57), .int .i64 (v58), .int .i64 (v59), .int .i64 (v60), .int .i64 (v61), .int .i64 (v62), .int .i64 (v63), .int .i64 (v64), .int .i64 (v65), .int .i64 (v66), .int .i64 (v67)], .int .i64 (v68)]) ∧ Below w.heap.size w w') ∧
   ((0 ≤ v68 ∧ v68 ≤ 0) ∧ (∃ v69 : Int, ∃ v70 : Int, ∃ v71 : Int, ∃ v72 : Int, ∃ v73 : Int, (∀ w, Calls Try.prog 55 #[.agg #[.int .i64 (v35), .int .i64 (v36), .int .i64 (v37), .int .i64 (v38), .int .i64 (v39), .int .i64 (v40), .int .i64 (v41), .int .i64 (v42), .int .i64 (v43), .int .i64 (v44), .int .i64 (v45), .int .i64 (v46), .int .i64 (v47), .int .i64 (v48), .int .i64 (v49), .int .i64 (v50)], .agg #[.int .i64 (v25), .int .i64 (v26), .int .i64 (v27), .int .i64 (v28)]] w fun e w' => e = .returned (.tuple #[.agg #[.int .i64 (v69), .int .i64 (v70), .int .i64 (v71), .int .i64 (v72)], .int .i64 (v73)]) ∧ Below w.heap.size w w') ∧
   ((0 ≤ v73 ∧ v73 ≤ 0) ∧ (∃ v74 : Int, ∃ v75 : Int, ∃ v76 : Int, ∃ v77 : Int, ∃ v78 : Int, ∃ v79 : Int, ∃ v80 : Int, ∃ v81 : Int, ∃ v82 : Int, (∀ w, Calls Try.prog 33 #[.agg #[.complex .f64 (FloatKind.f64.nearest a0) (FloatKind.f64.nearest a1), .complex .f64 (FloatKind.f64.nearest a2) (FloatKind.f64.nearest a3), .complex .f64 (FloatKind.f64.nearest a4) (FloatKind.f64.nearest a5), .complex .f64 (FloatKind.f64.nearest a6) (FloatKind.f64.nearest a7)], .agg #[.complex .f64 (FloatKind.f64.nearest b0) (FloatKind.f64.nearest b1), .complex .f64 (FloatKind.f64.nearest b2) (FloatKind.f64.nearest b3), .complex .f64 (FloatKind.f64.nearest b4) (FloatKind.f64.nearest b5), .complex .f64 (FloatKind.f64.nearest b6) (FloatKind.f64.nearest b7)]] w fun e w' => e = .returned (.tuple #[.agg #[.complex .f64 (v74 : Int).toNat (v75 : Int).toNat, .complex .f64 (v76 : Int).toNat (v77 : Int).toNat, .complex .f64 (v78 : Int).toNat (v79 : Int).toNat, .complex .f64 (v80 : Int).toNat (v81 : Int).toNat], .int .i64 (v82)]) ∧ Below w.heap.size w w') ∧
   ((0 ≤ v82 ∧ v82 ≤ 0) ∧ (∃ v83 : Int, ∃ v84 : Int, ∃ v85 : Int, ∃ v86 : Int, ∃ v87 : Int, ∃ v88 : Int, ∃ v89 : Int, ∃ v90 : Int, ∃ v91 : Int, ∃ v92 : Int, ∃ v93 : Int, ∃ v94 : Int, ∃ v95 : Int, ∃ v96 : Int, ∃ v97 : Int, ∃ v98 : Int, ∃ v99 : Int, (∀ w, Calls Try.prog 53 #[.agg #[.complex .f64 (v74 : Int).toNat (v75 : Int).toNat, .complex .f64 (v76 : Int).toNat (v77 : Int).toNat, .complex .f64 (v78 : Int).toNat (v79 : Int).toNat, .complex .f64 (v80 : Int).toNat (v81 : Int).toNat]] w fun e w' => e = .returned (.tuple #[.agg #[.int .i64 (v83), .int .i64 (v84), .int .i64 (v85), .int .i64 (v86), .int .i64 (v87), .int .i64 (v88), .int .i64 (v89), .int .i64 (v90), .int .i64 (v91), .int .i64 (v92), .int .i64 (v93), .int .i64 (v94), .int .i64 (v95), .int .i64 (v96), .int .i64 (v97), .int .i64 (v98)], .int .i64 (v99)]) ∧ Below w.heap.size w w') ∧
   ((0 ≤ v99 ∧ v99 ≤ 0) ∧ (∃ v100 : Int, ∃ v101 : Int, ∃ v102 : Int, ∃ v103 : Int, ∃ v104 : Int, ∃ v105 : Int, ∃ v106 : Int, ∃ v107 : Int, ∃ v108 : Int, ∃ v109 : Int, ∃ v110 : Int, ∃ v111 : Int, ∃ v112 : Int, ∃ v113 : Int, ∃ v114 : Int, ∃ v115 : Int, ∃ v116 : Int, (∀ w, Calls Try.prog 56 #[.agg #[.int .i64 (v35), .int .i64 (v36), .int .i64 (v37), .int .i64 (v38), .int .i64 (v39), .int .i64 (v40), .int .i64 (v41), .int .i64 (v42), .int .i64 (v43), .int .i64 (v44), .int .i64 (v45), .int .i64 (v46), .int .i64 (v47), .int .i64 (v48), .int .i64 (v49), .int .i64 (v50)], .agg #[.int .i64 (v52), .int .i64 (v53), .int .i64 (v54), .int .i64 (v55), .int .i64 (v56), .int .i64 (v57), .int .i64 (v58), .int .i64 (v59), .int .i64 (v60), .int .i64 (v61), .int .i64 (v62), .int .i64 (v63), .int .i64 (v64), .int .i64 (v65), .int .i64 (v66), .int .i64 (v67)]] w fun e w' => e = .returned (.tuple #[.agg #[.int .i64 (v100), .int .i64 (v101), .int .i64 (v102), .int .i64 (v103), .int .i64 (v104), .int .i64 (v105), .int .i64 (v106), .int .i64 (v107), .int .i64 (v108), .int .i64 (v109), .int .i64 (v110), .int .i64 (v111), .int .i64 (v112), .int .i64 (v113), .int .i64 (v114), .int .i64 (v115)], .int .i64 (v116)]) ∧ Below w.heap.size w w') ∧
   ((0 ≤ v116 ∧ v116 ≤ 0) ∧ ((((v24 : Int) == 0) = true → ((((v29 : Int) == 0) = true → ((((v34 : Int) == 0) = true → ((((v51 : Int) == 0) = true → ((((v68 : Int) == 0) = true → ((((v73 : Int) == 0) = true → ((((v82 : Int) == 0) = true → ((((v99 : Int) == 0) = true → ((((v116 : Int) == 0) = true → ((((v69 : Int) == IntKind.i64.wrap (2 * v30)) = true → ((((v70 : Int) == IntKind.i64.wrap (2 * v31)) = true → ((((v71 : Int) == IntKind.i64.wrap (2 * v32)) = true → ((((v72 : Int) == IntKind.i64.wrap (2 * v33)) = true → ((((v100 : Int) == IntKind.i64.wrap (2 * v83)) = true → ((((v101 : Int) == IntKind.i64.wrap (2 * v84)) = true → ((((v102 : Int) == IntKind.i64.wrap (2 * v85)) = true → ((((v103 : Int) == IntKind.i64.wrap (2 * v86)) = true → ((((v104 : Int) == IntKind.i64.wrap (2 * v87)) = true → ((((v105 : Int) == IntKind.i64.wrap (2 * v88)) = true → ((((v106 : Int) == IntKind.i64.wrap (2 * v89)) = true → ((((v107 : Int) == IntKind.i64.wrap (2 * v90)) = true → ((((v108 : Int) == IntKind.i64.wrap (2 * v91)) = true → ((((v109 : Int) == IntKind.i64.wrap (2 * v92)) = true → ((((v110 : Int) == IntKind.i64.wrap (2 * v93)) = true → ((((v111 : Int) == IntKind.i64.wrap (2 * v94)) = true → ((((v112 : Int) == IntKind.i64.wrap (2 * v95)) = true → ((((v113 : Int) == IntKind.i64.wrap (2 * v96)) = true → ((((v114 : Int) == IntKind.i64.wrap (2 * v97)) = true → ((((v115 : Int) == IntKind.i64.wrap (2 * v98)) = true → (∃ v117 : Int, ∃ v118 : Int, ∃ v119 : Int, (∀ w, Calls Try.prog 48 #[.agg #[.int .i64 (v25), .int .i64 (v26), .int .i64 (v27), .int .i64 (v28)]] w fun e w' => e = .returned (.tuple #[.agg #[.int .i64 (v117), .int .i64 (v118)], .int .i64 (v119)]) ∧ Below w.heap.size w w') ∧
                                ((((v25 : Int) == 0) = true → ((((v119 : Int) == 9) = true → Q (.bool (true))) ∧
                                 (((v119 : Int) == 9) = false → ((((v119 : Int) == 0) = true → Q (.bool ((((v117 : Int) == 1) && ((v118 : Int) == 1))))) ∧
                                  (((v119 : Int) == 0) = false → Q (.bool (false))))))) ∧
                                (((v25 : Int) == 0) = false → ((((v119 : Int) == 0) = true → Q (.bool ((((v117 : Int) == 1) && ((v118 : Int) == 1))))) ∧
                                 (((v119 : Int) == 0) = false → Q (.bool (false)))))))) ∧
                               (((v115 : Int) == IntKind.i64.wrap (2 * v98)) = false → Q (.bool (false))))) ∧
                              (((v114 : Int) == IntKind.i64.wrap (2 * v97)) = false → Q (.bool (false))))) ∧
                             (((v113 : Int) == IntKind.i64.wrap (2 * v96)) = false → Q (.bool (false))))) ∧
                            (((v112 : Int) == IntKind.i64.wrap (2 * v95)) = false → Q (.bool (false))))) ∧
                           (((v111 : Int) == IntKind.i64.wrap (2 * v94)) = false → Q (.bool (false))))) ∧
                          (((v110 : Int) == IntKind.i64.wrap (2 * v93)) = false → Q (.bool (false))))) ∧
                         (((v109 : Int) == IntKind.i64.wrap (2 * v92)) = false → Q (.bool (false))))) ∧
                        (((v108 : Int) == IntKind.i64.wrap (2 * v91)) = false → Q (.bool (false))))) ∧
                       (((v107 : Int) == IntKind.i64.wrap (2 * v90)) = false → Q (.bool (false))))) ∧
                      (((v106 : Int) == IntKind.i64.wrap (2 * v89)) = false → Q (.bool (false))))) ∧
                     (((v105 : Int) == IntKind.i64.wrap (2 * v88)) = false → Q (.bool (false))))) ∧
                    (((v104 : Int) == IntKind.i64.wrap (2 * v87)) = false → Q (.bool (false))))) ∧
                   (((v103 : Int) == IntKind.i64.wrap (2 * v86)) = false → Q (.bool (false))))) ∧
                  (((v102 : Int) == IntKind.i64.wrap (2 * v85)) = false → Q (.bool (false))))) ∧
                 (((v101 : Int) == IntKind.i64.wrap (2 * v84)) = false → Q (.bool (false))))) ∧
                (((v100 : Int) == IntKind.i64.wrap (2 * v83)) = false → Q (.bool (false))))) ∧
               (((v72 : Int) == IntKind.i64.wrap (2 * v33)) = false → Q (.bool (false))))) ∧
              (((v71 : Int) == IntKind.i64.wrap (2 * v32)) = false → Q (.bool (false))))) ∧
             (((v70 : Int) == IntKind.i64.wrap (2 * v31)) = false → Q (.bool (false))))) ∧
            (((v69 : Int) == IntKind.i64.wrap (2 * v30)) = false → Q (.bool (false))))) ∧
           (((v116 : Int) == 0) = false → Q (.bool (false))))) ∧
          (((v99 : Int) == 0) = false → Q (.bool (false))))) ∧
         (((v82 : Int) == 0) = false → Q (.bool (false))))) ∧
        (((v73 : Int) == 0) = false → Q (.bool (false))))) ∧
       (((v68 : Int) == 0) = false → Q (.bool (false))))) ∧
      (((v51 : Int) == 0) = false → Q (.bool (false))))) ∧
     (((v34 : Int) == 0) = false → Q (.bool (false))))) ∧
    (((v29 : Int) == 0) = false → Q (.bool (false))))) ∧
   (((v24 : Int) == 0) = false → Q (.bool (false)))))))))))))))))))))))) :
    ∃ v, Q v ∧ ∀ w, Calls Try.prog 9 #[.agg #[.int .i64 (a0), .int .i64 (a1), .int .i64 (a2), .int .i64 (a3), .int .i64 (a4), .int .i64 (a5), .int .i64 (a6), .int .i64 (a7)], .agg #[.int .i64 (b0), .int .i64 (b1), .int .i64 (b2), .int .i64 (b3), .int .i64 (b4), .int .i64 (b5), .int .i64 (b6), .int .i64 (b7)], .agg #[.int .i64 (v0), .int .i64 (v1), .int .i64 (v2), .int .i64 (v3)]] w fun e w' => e = .returned v ∧ Below w.heap.size w w' := by
  have H0 : pb_t.vc Try.prog Q (fun _ _ => False) (fun _ _ _ => False) none [a0, a1, a2, a3, a4, a5, a6, a7, b0, b1, b2, b3, b4, b5, b6, b7, v0, v1, v2, v3] [] := H
  rcases split_vc _ [true, true, true, true, true, true, true, true, true, true, true, true, true, true, true, true, true, true, true, true, true, true, true, true, true, true, true, true] H0 with g | H1
  · exact pb_p0 r0 r1 r2 r3 r4 r5 r6 r7 r8 r9 r10 r11 r12 r13 r14 r15 r16 r17 r18 r19 g
  rcases split_vc _ [true, true, true, true, true, true, true, true, true, true, true, true, true, true, true, true, true, true, true, true, true, true] H1 with g | H2
  · exact pb_p1 r0 r1 r2 r3 r4 r5 r6 r7 r8 r9 r10 r11 r12 r13 r14 r15 r16 r17 r18 r19 g
  rcases split_vc _ [true, true, true, true, true, true, true, true, true, true, true, true, true, true, true, true] H2 with g | H3
  · exact pb_p2 r0 r1 r2 r3 r4 r5 r6 r7 r8 r9 r10 r11 r12 r13 r14 r15 r16 r17 r18 r19 g
  rcases split_vc _ [true, true, true, true, true, true, true, true, true, true] H3 with g | H4
  · exact pb_p3 r0 r1 r2 r3 r4 r5 r6 r7 r8 r9 r10 r11 r12 r13 r14 r15 r16 r17 r18 r19 g
  rcases split_vc _ [true, true, true, true] H4 with g | H5
  · exact pb_p4 r0 r1 r2 r3 r4 r5 r6 r7 r8 r9 r10 r11 r12 r13 r14 r15 r16 r17 r18 r19 g
  exact pb_p5 r0 r1 r2 r3 r4 r5 r6 r7 r8 r9 r10 r11 r12 r13 r14 r15 r16 r17 r18 r19 H5
theorem pc {a0 a1 a2 a3 a4 a5 a6 a7 b0 b1 b2 b3 b4 b5 b6 b7 v0 v1 v2 v3 : Int} (r0 : (-9223372036854775808) ≤ a0 ∧ a0 ≤ 9223372036854775807) (r1 : (-9223372036854775808) ≤ a1 ∧ a1 ≤ 9223372036854775807) (r2 : (-9223372036854775808) ≤ a2 ∧ a2 ≤ 9223372036854775807) (r3 : (-9223372036854775808) ≤ a3 ∧ a3 ≤ 9223372036854775807) (r4 : (-9223372036854775808) ≤ a4 ∧ a4 ≤ 9223372036854775807) (r5 : (-9223372036854775808) ≤ a5 ∧ a5 ≤ 9223372036854775807) (r6 : (-9223372036854775808) ≤ a6 ∧ a6 ≤ 9223372036854775807) (r7 : (-9223372036854775808) ≤ a7 ∧ a7 ≤ 9223372036854775807) (r8 : (-9223372036854775808) ≤ b0 ∧ b0 ≤ 9223372036854775807) (r9 : (-9223372036854775808) ≤ b1 ∧ b1 ≤ 9223372036854775807) (r10 : (-9223372036854775808) ≤ b2 ∧ b2 ≤ 9223372036854775807) (r11 : (-9223372036854775808) ≤ b3 ∧ b3 ≤ 9223372036854775807) (r12 : (-9223372036854775808) ≤ b4 ∧ b4 ≤ 9223372036854775807) (r13 : (-9223372036854775808) ≤ b5 ∧ b5 ≤ 9223372036854775807) (r14 : (-9223372036854775808) ≤ b6 ∧ b6 ≤ 9223372036854775807) (r15 : (-9223372036854775808) ≤ b7 ∧ b7 ≤ 9223372036854775807) (r16 : (-9223372036854775808) ≤ v0 ∧ v0 ≤ 9223372036854775807) (r17 : (-9223372036854775808) ≤ v1 ∧ v1 ≤ 9223372036854775807) (r18 : (-9223372036854775808) ≤ v2 ∧ v2 ≤ 9223372036854775807) (r19 : (-9223372036854775808) ≤ v3 ∧ v3 ≤ 9223372036854775807) {Q : Value → Prop} (H :
  ((∀ w, Calls Try.prog 20 #[] w fun e w' => e = .returned (.bool (true)) ∧ Below w.heap.size w w') ∧
   ((decide (((-10) : Int) ≤ a0) = true → ((decide ((a0 : Int) ≤ 10) = true → ((decide (((-10) : Int) ≤ a1) = true → ((decide ((a1 : Int) ≤ 10) = true → ((decide (((-10) : Int) ≤ a2) = true → ((decide ((a2 : Int) ≤ 10) = true → ((decide (((-10) : Int) ≤ a3) = true → ((decide ((a3 : Int) ≤ 10) = true → ((decide (((-10) : Int) ≤ a4) = true → ((decide ((a4 : Int) ≤ 10) = true → ((decide (((-10) : Int) ≤ a5) = true → ((decide ((a5 : Int) ≤ 10) = true → ((decide (((-10) : Int) ≤ a6) = true → ((decide ((a6 : Int) ≤ 10) = true → ((decide (((-10) : Int) ≤ a7) = true → ((decide ((a7 : Int) ≤ 10) = true → ((decide (((-10) : Int) ≤ b0) = true → ((decide ((b0 : Int) ≤ 10) = true → ((decide (((-10) : Int) ≤ b1) = true → ((decide ((b1 : Int) ≤ 10) = true → ((decide (((-10) : Int) ≤ b2) = true → ((decide ((b2 : Int) ≤ 10) = true → ((decide (((-10) : Int) ≤ b3) = true → ((decide ((b3 : Int) ≤ 10) = true → ((decide (((-10) : Int) ≤ b4) = true → ((decide ((b4 : Int) ≤ 10) = true → ((decide (((-10) : Int) ≤ b5) = true → ((decide ((b5 : Int) ≤ 10) = true → ((decide (((-10) : Int) ≤ b6) = true → ((decide ((b6 : Int) ≤ 10) = true → ((decide (((-10) : Int) ≤ b7) = true → ((decide ((b7 : Int) ≤ 10) = true → ((decide (((-10) : Int) ≤ v0) = true → ((decide ((v0 : Int) ≤ 10) = true → ((decide (((-10) : Int) ≤ v1) = true → ((decide ((v1 : Int) ≤ 10) = true → ((decide (((-10) : Int) ≤ v2) = true → ((decide ((v2 : Int) ≤ 10) = true → ((decide (((-10) : Int) ≤ v3) = true → ((decide ((v3 : Int) ≤ 10) = true → False) ∧
                                          (decide ((v3 : Int) ≤ 10) = false → Q (.bool (true))))) ∧
                                         (decide (((-10) : Int) ≤ v3) = false → Q (.bool (true))))) ∧
                                        (decide ((v2 : Int) ≤ 10) = false → Q (.bool (true))))) ∧
                                       (decide (((-10) : Int) ≤ v2) = false → Q (.bool (true))))) ∧
                                      (decide ((v1 : Int) ≤ 10) = false → Q (.bool (true))))) ∧
                                     (decide (((-10) : Int) ≤ v1) = false → Q (.bool (true))))) ∧
                                    (decide ((v0 : Int) ≤ 10) = false → Q (.bool (true))))) ∧
                                   (decide (((-10) : Int) ≤ v0) = false → Q (.bool (true))))) ∧
                                  (decide ((b7 : Int) ≤ 10) = false → Q (.bool (true))))) ∧
                                 (decide (((-10) : Int) ≤ b7) = false → Q (.bool (true))))) ∧
                                (decide ((b6 : Int) ≤ 10) = false → Q (.bool (true))))) ∧
                               (decide (((-10) : Int) ≤ b6) = false → Q (.bool (true))))) ∧
                              (decide ((b5 : Int) ≤ 10) = false → Q (.bool (true))))) ∧
                             (decide (((-10) : Int) ≤ b5) = false → Q (.bool (true))))) ∧
                            (decide ((b4 : Int) ≤ 10) = false → Q (.bool (true))))) ∧
                           (decide (((-10) : Int) ≤ b4) = false → Q (.bool (true))))) ∧
                          (decide ((b3 : Int) ≤ 10) = false → Q (.bool (true))))) ∧
                         (decide (((-10) : Int) ≤ b3) = false → Q (.bool (true))))) ∧
                        (decide ((b2 : Int) ≤ 10) = false → Q (.bool (true))))) ∧
                       (decide (((-10) : Int) ≤ b2) = false → Q (.bool (true))))) ∧
                      (decide ((b1 : Int) ≤ 10) = false → Q (.bool (true))))) ∧
                     (decide (((-10) : Int) ≤ b1) = false → Q (.bool (true))))) ∧
                    (decide ((b0 : Int) ≤ 10) = false → Q (.bool (true))))) ∧
                   (decide (((-10) : Int) ≤ b0) = false → Q (.bool (true))))) ∧
                  (decide ((a7 : Int) ≤ 10) = false → Q (.bool (true))))) ∧
                 (decide (((-10) : Int) ≤ a7) = false → Q (.bool (true))))) ∧
                (decide ((a6 : Int) ≤ 10) = false → Q (.bool (true))))) ∧
               (decide (((-10) : Int) ≤ a6) = false → Q (.bool (true))))) ∧
              (decide ((a5 : Int) ≤ 10) = false → Q (.bool (true))))) ∧
             (decide (((-10) : Int) ≤ a5) = false → Q (.bool (true))))) ∧
            (decide ((a4 : Int) ≤ 10) = false → Q (.bool (true))))) ∧
           (decide (((-10) : Int) ≤ a4) = false → Q (.bool (true))))) ∧
          (decide ((a3 : Int) ≤ 10) = false → Q (.bool (true))))) ∧
         (decide (((-10) : Int) ≤ a3) = false → Q (.bool (true))))) ∧
        (decide ((a2 : Int) ≤ 10) = false → Q (.bool (true))))) ∧
       (decide (((-10) : Int) ≤ a2) = false → Q (.bool (true))))) ∧
      (decide ((a1 : Int) ≤ 10) = false → Q (.bool (true))))) ∧
     (decide (((-10) : Int) ≤ a1) = false → Q (.bool (true))))) ∧
    (decide ((a0 : Int) ≤ 10) = false → Q (.bool (true))))) ∧
   (decide (((-10) : Int) ≤ a0) = false → Q (.bool (true)))))) :
    ∃ v, Q v ∧ ∀ w, Calls Try.prog 9 #[.agg #[.int .i64 (a0), .int .i64 (a1), .int .i64 (a2), .int .i64 (a3), .int .i64 (a4), .int .i64 (a5), .int .i64 (a6), .int .i64 (a7)], .agg #[.int .i64 (b0), .int .i64 (b1), .int .i64 (b2), .int .i64 (b3), .int .i64 (b4), .int .i64 (b5), .int .i64 (b6), .int .i64 (b7)], .agg #[.int .i64 (v0), .int .i64 (v1), .int .i64 (v2), .int .i64 (v3)]] w fun e w' => e = .returned v ∧ Below w.heap.size w w' := by
  have H0 : pc_t.vc Try.prog Q (fun _ _ => False) (fun _ _ _ => False) none [a0, a1, a2, a3, a4, a5, a6, a7, b0, b1, b2, b3, b4, b5, b6, b7, v0, v1, v2, v3] [] := H
  rcases split_vc _ [true, true, true, true, true, true, true, true, true, true, true, true, true, true, true, true] H0 with g | H1
  · exact pc_p0 r0 r1 r2 r3 r4 r5 r6 r7 r8 r9 r10 r11 r12 r13 r14 r15 r16 r17 r18 r19 g
  exact pc_p1 r0 r1 r2 r3 r4 r5 r6 r7 r8 r9 r10 r11 r12 r13 r14 r15 r16 r17 r18 r19 H1
end Go.Proofs.Ytlondnchmfhenaa.Ev
