/- The statement on all ways of calculating: where the quotient is none. -/
import Derived.Test.YthkooiopiaakbaaAlga
import Derived.Test.YthkooiopiaakbaaPlab
import Derived.Test.YthkooiopiaakbaaBald
import Derived.Test.YthkooiopiaakbaaNear
import Derived.Test.YthkooiopiaakbaaConj
import Derived.Test.YthkooiopiaakbaaThra
import Derived.Test.YthkooiopiaakbaaThrb
namespace Go.Proofs.Ythkooiopiaakbaa
open Go.RowKit Go.Lib
attribute [local go_sem] run_store_float run_store_complex
set_option linter.unusedVariables false

set_option maxRecDepth 100000 in
set_option maxHeartbeats 8000000 in
theorem alg_n {x0 y0 r0 x1 y1 r1 x2 y2 r2 ke3 ke6 ke7 kf1 kf3 kf4 kf5 kf6 kg2 aR bR cR sR dR pR aaR bbR qR tR acR bcR uR abR vR wwR yR zR mR gR hR nR : Int} {aX aY bX bY cX cY sX sY dX dY pX pY aaX aaY bbX bbY qX qY tX tY acX acY bcX bcY uX uY abX abY vX vY wwX wwY yX yY zX zY mX mY gX gY hX hY nX nY : Nat} (h5 : kf5 ≠ 0)
    (HTB : Hid (∀ w, Calls Try.prog 68 #[.agg #[.int .i64 x0, .int .i64 y0, .int .i64 r0, .int .i64 x1, .int .i64 y1, .int .i64 r1, .int .i64 x2, .int .i64 y2, .int .i64 r2]] w (Mem (.tuple #[.agg #[.complex .f64 aX aY, .int .i64 aR, .complex .f64 bX bY, .int .i64 bR, .complex .f64 cX cY, .int .i64 cR], .bool true]) w)))
    (HS : Hid (∀ w, Calls Try.prog 24 #[.agg #[.complex .f64 aX aY, .int .i64 aR], .agg #[.complex .f64 bX bY, .int .i64 bR]] w (Mem (.tuple #[.agg #[.complex .f64 sX sY, .int .i64 sR], .int .i64 0]) w)))
    (HD : Hid (∀ w, Calls Try.prog 25 #[.agg #[.complex .f64 aX aY, .int .i64 aR], .agg #[.complex .f64 bX bY, .int .i64 bR]] w (Mem (.tuple #[.agg #[.complex .f64 dX dY, .int .i64 dR], .int .i64 0]) w)))
    (HP : Hid (∀ w, Calls Try.prog 37 #[.agg #[.complex .f64 sX sY, .int .i64 sR], .agg #[.complex .f64 dX dY, .int .i64 dR]] w (Mem (.tuple #[.agg #[.complex .f64 pX pY, .int .i64 pR], .int .i64 ke3]) w)))
    (HAA : Hid (∀ w, Calls Try.prog 37 #[.agg #[.complex .f64 aX aY, .int .i64 aR], .agg #[.complex .f64 aX aY, .int .i64 aR]] w (Mem (.tuple #[.agg #[.complex .f64 aaX aaY, .int .i64 aaR], .int .i64 0]) w)))
    (HBB : Hid (∀ w, Calls Try.prog 37 #[.agg #[.complex .f64 bX bY, .int .i64 bR], .agg #[.complex .f64 bX bY, .int .i64 bR]] w (Mem (.tuple #[.agg #[.complex .f64 bbX bbY, .int .i64 bbR], .int .i64 0]) w)))
    (HQ : Hid (∀ w, Calls Try.prog 25 #[.agg #[.complex .f64 aaX aaY, .int .i64 aaR], .agg #[.complex .f64 bbX bbY, .int .i64 bbR]] w (Mem (.tuple #[.agg #[.complex .f64 qX qY, .int .i64 qR], .int .i64 ke6]) w)))
    (HM1 : Hid (∀ w, Calls Try.prog 69 #[.agg #[.complex .f64 pX pY, .int .i64 pR], .agg #[.complex .f64 qX qY, .int .i64 qR], .int .i64 ke3, .int .i64 ke6] w (Mem (.bool true) w)))
    (HT : Hid (∀ w, Calls Try.prog 37 #[.agg #[.complex .f64 sX sY, .int .i64 sR], .agg #[.complex .f64 cX cY, .int .i64 cR]] w (Mem (.tuple #[.agg #[.complex .f64 tX tY, .int .i64 tR], .int .i64 ke7]) w)))
    (HAC : Hid (∀ w, Calls Try.prog 37 #[.agg #[.complex .f64 aX aY, .int .i64 aR], .agg #[.complex .f64 cX cY, .int .i64 cR]] w (Mem (.tuple #[.agg #[.complex .f64 acX acY, .int .i64 acR], .int .i64 0]) w)))
    (HBC : Hid (∀ w, Calls Try.prog 37 #[.agg #[.complex .f64 bX bY, .int .i64 bR], .agg #[.complex .f64 cX cY, .int .i64 cR]] w (Mem (.tuple #[.agg #[.complex .f64 bcX bcY, .int .i64 bcR], .int .i64 0]) w)))
    (HU : Hid (∀ w, Calls Try.prog 24 #[.agg #[.complex .f64 acX acY, .int .i64 acR], .agg #[.complex .f64 bcX bcY, .int .i64 bcR]] w (Mem (.tuple #[.agg #[.complex .f64 uX uY, .int .i64 uR], .int .i64 kf1]) w)))
    (HM2 : Hid (∀ w, Calls Try.prog 69 #[.agg #[.complex .f64 tX tY, .int .i64 tR], .agg #[.complex .f64 uX uY, .int .i64 uR], .int .i64 ke7, .int .i64 kf1] w (Mem (.bool true) w)))
    (HAB : Hid (∀ w, Calls Try.prog 37 #[.agg #[.complex .f64 aX aY, .int .i64 aR], .agg #[.complex .f64 bX bY, .int .i64 bR]] w (Mem (.tuple #[.agg #[.complex .f64 abX abY, .int .i64 abR], .int .i64 0]) w)))
    (HV : Hid (∀ w, Calls Try.prog 37 #[.agg #[.complex .f64 abX abY, .int .i64 abR], .agg #[.complex .f64 cX cY, .int .i64 cR]] w (Mem (.tuple #[.agg #[.complex .f64 vX vY, .int .i64 vR], .int .i64 kf3]) w)))
    (HW : Hid (∀ w, Calls Try.prog 37 #[.agg #[.complex .f64 aX aY, .int .i64 aR], .agg #[.complex .f64 bcX bcY, .int .i64 bcR]] w (Mem (.tuple #[.agg #[.complex .f64 wwX wwY, .int .i64 wwR], .int .i64 kf4]) w)))
    (HM3 : Hid (∀ w, Calls Try.prog 69 #[.agg #[.complex .f64 vX vY, .int .i64 vR], .agg #[.complex .f64 wwX wwY, .int .i64 wwR], .int .i64 kf3, .int .i64 kf4] w (Mem (.bool true) w)))
    (HY : Hid (∀ w, Calls Try.prog 41 #[.agg #[.complex .f64 aX aY, .int .i64 aR], .agg #[.complex .f64 bX bY, .int .i64 bR]] w (Mem (.tuple #[.agg #[.complex .f64 yX yY, .int .i64 yR], .int .i64 kf5]) w)))
    (HZ : Hid (∀ w, Calls Try.prog 41 #[.agg #[.complex .f64 aX aY, .int .i64 aR], .agg #[.complex .f64 bcX bcY, .int .i64 bcR]] w (Mem (.tuple #[.agg #[.complex .f64 zX zY, .int .i64 zR], .int .i64 kf6]) w)))
    (HM : Hid (∀ w, Calls Try.prog 26 #[.agg #[.complex .f64 abX abY, .int .i64 abR]] w (Mem (.tuple #[.agg #[.complex .f64 mX mY, .int .i64 mR], .int .i64 0]) w)))
    (HG : Hid (∀ w, Calls Try.prog 26 #[.agg #[.complex .f64 aX aY, .int .i64 aR]] w (Mem (.tuple #[.agg #[.complex .f64 gX gY, .int .i64 gR], .int .i64 0]) w)))
    (HH : Hid (∀ w, Calls Try.prog 26 #[.agg #[.complex .f64 bX bY, .int .i64 bR]] w (Mem (.tuple #[.agg #[.complex .f64 hX hY, .int .i64 hR], .int .i64 0]) w)))
    (HN : Hid (∀ w, Calls Try.prog 37 #[.agg #[.complex .f64 gX gY, .int .i64 gR], .agg #[.complex .f64 hX hY, .int .i64 hR]] w (Mem (.tuple #[.agg #[.complex .f64 nX nY, .int .i64 nR], .int .i64 kg2]) w)))
    (HM5 : Hid (∀ w, Calls Try.prog 69 #[.agg #[.complex .f64 mX mY, .int .i64 mR], .agg #[.complex .f64 nX nY, .int .i64 nR], .int .i64 0, .int .i64 kg2] w (Mem (.bool true) w))) (w : World) :
    Calls Try.prog 15 #[.agg #[.int .i64 x0, .int .i64 y0, .int .i64 r0, .int .i64 x1, .int .i64 y1, .int .i64 r1, .int .i64 x2, .int .i64 y2, .int .i64 r2]] w (Mem (.bool true) w) := by
  have HA := Lib.hid (fun w => balled_any w)
  have g1 : (kf5 != 0) = true := by simpa using h5
  have g3 : (kf5 == 0) = false := by simpa using h5
  clear h5
  go_enter Try.func15, Try.ntmps15
  go_wp2_with fail
  have K := (Hold.start w).new #[.int .i64 x0, .int .i64 y0, .int .i64 r0, .int .i64 x1, .int .i64 y1, .int .i64 r1, .int .i64 x2, .int .i64 y2, .int .i64 r2] 83 (n := w.heap.size) (by simp)
  refine (HA.out _).mono ?_
  rintro e_1 w1 ⟨rfl, hb⟩
  have K' := Hold.mem (K) hb
  clear hb K
  have K := K'
  clear K'
  obtain ⟨_, sz1, h0, _⟩ := id K
  have q0 := h0.cell; have f0 := h0.frozen; have z0 := h0.lt
  clear h0
  go_wp2_with fail
  refine (HTB.out _).mono ?_
  rintro e_2 w2 ⟨rfl, hb⟩
  have K' := Hold.mem (K) hb
  clear hb K
  have K := K'
  clear K'
  clear q0 f0 z0 sz1
  obtain ⟨_, sz2, _, _⟩ := id K
  go_wp2_with fail
  clear sz2
  have K' := (K).new #[.complex .f64 aX aY, .int .i64 aR, .complex .f64 bX bY, .int .i64 bR, .complex .f64 cX cY, .int .i64 cR] 84 (n := w2.heap.size) (by first | rfl | (simp <;> omega))
  clear K
  have K := K'
  clear K'
  obtain ⟨_, sz3, h0, h1, _⟩ := id K
  have z3_0 := h0.lt; have z3_1 := h1.lt
  clear h0 h1
  have hne : Hid (∃ w', Hold w.heap.size w [(w2.heap.size, #[.complex .f64 aX aY, .int .i64 aR, .complex .f64 bX bY, .int .i64 bR, .complex .f64 cX cY, .int .i64 cR]), (w.heap.size, #[.int .i64 x0, .int .i64 y0, .int .i64 r0, .int .i64 x1, .int .i64 y1, .int .i64 r1, .int .i64 x2, .int .i64 y2, .int .i64 r2])] w') := ⟨_, K.drew⟩
  have hsz := K.size
  refine wp_region_play (Hold w.heap.size w [(w2.heap.size, #[.complex .f64 aX aY, .int .i64 aR, .complex .f64 bX bY, .int .i64 bR, .complex .f64 cX cY, .int .i64 cR]), (w.heap.size, #[.int .i64 x0, .int .i64 y0, .int .i64 r0, .int .i64 x1, .int .i64 y1, .int .i64 r1, .int .i64 x2, .int .i64 y2, .int .i64 r2])]) 6 [(6, 5, #[.complex .f64 0 0, .int .i64 0]), (7, 6, #[.complex .f64 0 0, .int .i64 0]), (8, 7, #[.complex .f64 0 0, .int .i64 0])] rfl (by decide) (by kernel_rfl) (by kernel_rfl) (Hold.lasting _ _ _) K.drew (by intro x hx; simp only [List.mem_cons, List.not_mem_nil, or_false] at hx; rcases hx with rfl | rfl | rfl <;> exact ⟨_, rfl, ⟨rfl, rfl, fun _ _ => ⟨_, by go_simp; exact rfl⟩⟩⟩) ?_
  simp only [List.take_succ_cons, List.take_zero, List.drop_succ_cons, List.drop_zero, List.length_cons, List.length_nil]
  clear K
  repeat (first
    | (refine calm_skip (by rfl) ?_; simp only [Act.put, List.setIfInBounds_toArray, List.set_cons_zero, List.set_cons_succ])
    | (refine calm_step hne.out (by rfl) rfl (by simp) ?_; apply Exists.intro; refine ⟨?_, ?_⟩
       · (intro r _ K hK; go_big_quiet_op; first
          | exact hK
          | (apply Exists.intro; refine ⟨fun _ hw => ?_, ?_⟩; (first
             | with_reducible exact rfl
             | (obtain ⟨_, _, h0, h1, _⟩ := hw.s; have q0 := h0.cell; have q1 := h1.cell; clear h0 h1; simp [q0, q1, go_sem]; exact rfl)); exact hK))))
  refine wpCalm_nil ?_
  try simp only [Fin]
  intro ba hge_ba hn_ba bb hge_bb hn_bb bc hge_bc hn_bc
  clear hne
  simp only [List.mem_cons, List.not_mem_nil, or_false, not_or, not_false_eq_true] at hn_bb hn_bc
  simp only [Act.put, List.setIfInBounds_toArray, List.set_cons_zero, List.set_cons_succ]
  refine StoSeq.mono _ (fun w => Cells w [(ba, #[.complex .f64 0 0, .int .i64 0]), (bb, #[.complex .f64 0 0, .int .i64 0]), (bc, #[.complex .f64 0 0, .int .i64 0])]) _ _ (fun w hw => ⟨hw.1.1.2, hw.1.2, hw.2, trivial⟩) ?_
  refine StoSeq.perm (L := [(ba, #[.complex .f64 0 0, .int .i64 0]), (bb, #[.complex .f64 0 0, .int .i64 0]), (bc, #[.complex .f64 0 0, .int .i64 0])]) (by simp) ?_
  refine ⟨_, stores_two (c0 := .complex .f64 aX aY) (c1 := .int .i64 aR) rfl rfl (fun _ _ h => by cases h) (by omega) (by simp <;> omega) (by simp <;> omega) (fun w hw => ?_), ?_⟩
  · have hq := hw.cell; have hf := hw.frozen; have hlt := hw.lt; clear hw
    simp [execOp, hq, hf, hlt, go_sem]
  refine StoSeq.perm (L := [(bb, #[.complex .f64 0 0, .int .i64 0]), (ba, #[.complex .f64 aX aY, .int .i64 aR]), (bc, #[.complex .f64 0 0, .int .i64 0])]) (by simp) ?_
  refine ⟨_, stores_two (c0 := .complex .f64 bX bY) (c1 := .int .i64 bR) rfl rfl (fun _ _ h => by cases h) (by omega) (by simp <;> omega) (by simp <;> omega) (fun w hw => ?_), ?_⟩
  · have hq := hw.cell; have hf := hw.frozen; have hlt := hw.lt; clear hw
    simp [execOp, hq, hf, hlt, go_sem]
  refine StoSeq.perm (L := [(bc, #[.complex .f64 0 0, .int .i64 0]), (bb, #[.complex .f64 bX bY, .int .i64 bR]), (ba, #[.complex .f64 aX aY, .int .i64 aR])]) (by simp) ?_
  refine ⟨_, stores_two (c0 := .complex .f64 cX cY) (c1 := .int .i64 cR) rfl rfl (fun _ _ h => by cases h) (by omega) (by simp <;> omega) (by simp <;> omega) (fun w hw => ?_), ?_⟩
  · have hq := hw.cell; have hf := hw.frozen; have hlt := hw.lt; clear hw
    simp [execOp, hq, hf, hlt, go_sem]
  intro w3 K hx
  have K' := K.app hx
  clear K hx hsz
  have K := K'
  clear K'
  simp only [List.cons_append, List.nil_append] at K
  obtain ⟨_, sz4, _, h1, h2, _, _, _⟩ := id K
  have q1 := h1.cell; have f1 := h1.frozen; have z1 := h1.lt
  have q2 := h2.cell; have f2 := h2.frozen; have z2 := h2.lt
  clear h1 h2
  go_wp2_with fail
  refine (HS.out _).mono ?_
  rintro e_4 w4 ⟨rfl, hb⟩
  have K' := Hold.mem (K) hb
  clear hb K
  have K := K'
  clear K'
  clear q1 f1 q2 f2 z1 z2 sz4
  obtain ⟨_, sz5, _, h1, h2, _, _, _⟩ := id K
  have q1 := h1.cell; have f1 := h1.frozen; have z1 := h1.lt
  have q2 := h2.cell; have f2 := h2.frozen; have z2 := h2.lt
  clear h1 h2
  go_wp2_with fail
  refine (HD.out _).mono ?_
  rintro e_5 w5 ⟨rfl, hb⟩
  have K' := Hold.mem ((K).new #[.complex .f64 sX sY, .int .i64 sR] 27 (n := w4.heap.size) (by first | rfl | (simp <;> omega))) hb
  clear hb K
  have K := K'
  clear K'
  clear q1 f1 q2 f2 z1 z2 sz5
  obtain ⟨_, sz6, h0, _, _, _, _, _, _⟩ := id K
  have q0 := h0.cell; have f0 := h0.frozen; have z0 := h0.lt
  clear h0
  go_wp2_with fail
  refine (HP.out _).mono ?_
  rintro e_6 w6 ⟨rfl, hb⟩
  have K' := Hold.mem ((K).new #[.complex .f64 dX dY, .int .i64 dR] 27 (n := w5.heap.size) (by first | rfl | (simp <;> omega))) hb
  clear hb K
  have K := K'
  clear K'
  clear q0 f0 z0 sz6
  obtain ⟨_, sz7, _, _, _, _, h4, _, _, _⟩ := id K
  have q4 := h4.cell; have f4 := h4.frozen; have z4 := h4.lt
  clear h4
  go_wp2_with fail
  refine (HAA.out _).mono ?_
  rintro e_7 w7 ⟨rfl, hb⟩
  have K' := Hold.mem ((K).new #[.complex .f64 pX pY, .int .i64 pR] 27 (n := w6.heap.size) (by first | rfl | (simp <;> omega))) hb
  clear hb K
  have K := K'
  clear K'
  clear q4 f4 z4 sz7
  obtain ⟨_, sz8, _, _, _, _, h4, _, _, _, _⟩ := id K
  have q4 := h4.cell; have f4 := h4.frozen; have z4 := h4.lt
  clear h4
  go_wp2_with fail
  refine (HBB.out _).mono ?_
  rintro e_8 w8 ⟨rfl, hb⟩
  have K' := Hold.mem ((K).new #[.complex .f64 aaX aaY, .int .i64 aaR] 27 (n := w7.heap.size) (by first | rfl | (simp <;> omega))) hb
  clear hb K
  have K := K'
  clear K'
  clear q4 f4 z4 sz8
  obtain ⟨_, sz9, h0, _, _, _, _, _, _, _, _, _⟩ := id K
  have q0 := h0.cell; have f0 := h0.frozen; have z0 := h0.lt
  clear h0
  go_wp2_with fail
  refine (HQ.out _).mono ?_
  rintro e_9 w9 ⟨rfl, hb⟩
  have K' := Hold.mem ((K).new #[.complex .f64 bbX bbY, .int .i64 bbR] 27 (n := w8.heap.size) (by first | rfl | (simp <;> omega))) hb
  clear hb K
  have K := K'
  clear K'
  clear q0 f0 z0 sz9
  obtain ⟨_, sz10, _, _, h2, _, _, _, _, _, _, _, _⟩ := id K
  have q2 := h2.cell; have f2 := h2.frozen; have z2 := h2.lt
  clear h2
  go_wp2_with fail
  refine (HM1.out _).mono ?_
  rintro e_10 w10 ⟨rfl, hb⟩
  have K' := Hold.mem ((K).new #[.complex .f64 qX qY, .int .i64 qR] 27 (n := w9.heap.size) (by first | rfl | (simp <;> omega))) hb
  clear hb K
  have K := K'
  clear K'
  clear q2 f2 z2 sz10
  obtain ⟨_, sz11, _, _, _, _, _, h5, h6, _, _, _, _, _⟩ := id K
  have q5 := h5.cell; have f5 := h5.frozen; have z5 := h5.lt
  have q6 := h6.cell; have f6 := h6.frozen; have z6 := h6.lt
  clear h5 h6
  go_wp2_with fail
  refine (HT.out _).mono ?_
  rintro e_11 w11 ⟨rfl, hb⟩
  have K' := Hold.mem (K) hb
  clear hb K
  have K := K'
  clear K'
  clear q5 f5 q6 f6 z5 z6 sz11
  obtain ⟨_, sz12, _, _, _, _, _, _, h6, _, h8, _, _, _⟩ := id K
  have q6 := h6.cell; have f6 := h6.frozen; have z6 := h6.lt
  have q8 := h8.cell; have f8 := h8.frozen; have z8 := h8.lt
  clear h6 h8
  go_wp2_with fail
  refine (HAC.out _).mono ?_
  rintro e_12 w12 ⟨rfl, hb⟩
  have K' := Hold.mem ((K).new #[.complex .f64 tX tY, .int .i64 tR] 27 (n := w11.heap.size) (by first | rfl | (simp <;> omega))) hb
  clear hb K
  have K := K'
  clear K'
  clear q6 f6 q8 f8 z6 z8 sz12
  obtain ⟨_, sz13, _, _, _, _, _, _, _, h7, h8, _, _, _, _⟩ := id K
  have q7 := h7.cell; have f7 := h7.frozen; have z7 := h7.lt
  have q8 := h8.cell; have f8 := h8.frozen; have z8 := h8.lt
  clear h7 h8
  go_wp2_with fail
  refine (HBC.out _).mono ?_
  rintro e_13 w13 ⟨rfl, hb⟩
  have K' := Hold.mem ((K).new #[.complex .f64 acX acY, .int .i64 acR] 27 (n := w12.heap.size) (by first | rfl | (simp <;> omega))) hb
  clear hb K
  have K := K'
  clear K'
  clear q7 f7 q8 f8 z7 z8 sz13
  obtain ⟨_, sz14, h0, _, _, _, _, _, _, _, _, _, _, _, _, _⟩ := id K
  have q0 := h0.cell; have f0 := h0.frozen; have z0 := h0.lt
  clear h0
  go_wp2_with fail
  refine (HU.out _).mono ?_
  rintro e_14 w14 ⟨rfl, hb⟩
  have K' := Hold.mem ((K).new #[.complex .f64 bcX bcY, .int .i64 bcR] 27 (n := w13.heap.size) (by first | rfl | (simp <;> omega))) hb
  clear hb K
  have K := K'
  clear K'
  clear q0 f0 z0 sz14
  obtain ⟨_, sz15, _, _, h2, _, _, _, _, _, _, _, _, _, _, _, _⟩ := id K
  have q2 := h2.cell; have f2 := h2.frozen; have z2 := h2.lt
  clear h2
  go_wp2_with fail
  refine (HM2.out _).mono ?_
  rintro e_15 w15 ⟨rfl, hb⟩
  have K' := Hold.mem ((K).new #[.complex .f64 uX uY, .int .i64 uR] 27 (n := w14.heap.size) (by first | rfl | (simp <;> omega))) hb
  clear hb K
  have K := K'
  clear K'
  clear q2 f2 z2 sz15
  obtain ⟨_, sz16, _, _, _, _, _, _, _, _, _, _, _, h11, h12, _, _, _⟩ := id K
  have q11 := h11.cell; have f11 := h11.frozen; have z11 := h11.lt
  have q12 := h12.cell; have f12 := h12.frozen; have z12 := h12.lt
  clear h11 h12
  go_wp2_with fail
  refine (HAB.out _).mono ?_
  rintro e_16 w16 ⟨rfl, hb⟩
  have K' := Hold.mem (K) hb
  clear hb K
  have K := K'
  clear K'
  clear q11 f11 q12 f12 z11 z12 sz16
  obtain ⟨_, sz17, _, _, _, _, _, _, _, _, _, _, h10, _, _, _, _, _⟩ := id K
  have q10 := h10.cell; have f10 := h10.frozen; have z10 := h10.lt
  clear h10
  go_wp2_with fail
  refine (HV.out _).mono ?_
  rintro e_17 w17 ⟨rfl, hb⟩
  have K' := Hold.mem ((K).new #[.complex .f64 abX abY, .int .i64 abR] 27 (n := w16.heap.size) (by first | rfl | (simp <;> omega))) hb
  clear hb K
  have K := K'
  clear K'
  clear q10 f10 z10 sz17
  obtain ⟨_, sz18, _, _, h2, _, _, _, _, _, _, _, _, _, _, h13, _, _, _⟩ := id K
  have q2 := h2.cell; have f2 := h2.frozen; have z2 := h2.lt
  have q13 := h13.cell; have f13 := h13.frozen; have z13 := h13.lt
  clear h2 h13
  go_wp2_with fail
  refine (HW.out _).mono ?_
  rintro e_18 w18 ⟨rfl, hb⟩
  have K' := Hold.mem ((K).new #[.complex .f64 vX vY, .int .i64 vR] 27 (n := w17.heap.size) (by first | rfl | (simp <;> omega))) hb
  clear hb K
  have K := K'
  clear K'
  clear q2 f2 q13 f13 z2 z13 sz18
  obtain ⟨_, sz19, h0, _, _, _, _, _, _, _, _, _, _, _, _, _, _, _, _, _⟩ := id K
  have q0 := h0.cell; have f0 := h0.frozen; have z0 := h0.lt
  clear h0
  go_wp2_with fail
  refine (HM3.out _).mono ?_
  rintro e_19 w19 ⟨rfl, hb⟩
  have K' := Hold.mem ((K).new #[.complex .f64 wwX wwY, .int .i64 wwR] 27 (n := w18.heap.size) (by first | rfl | (simp <;> omega))) hb
  clear hb K
  have K := K'
  clear K'
  clear q0 f0 z0 sz19
  obtain ⟨_, sz20, _, _, _, _, _, _, _, _, _, _, _, _, _, _, h14, h15, _, _, _⟩ := id K
  have q14 := h14.cell; have f14 := h14.frozen; have z14 := h14.lt
  have q15 := h15.cell; have f15 := h15.frozen; have z15 := h15.lt
  clear h14 h15
  go_wp2_with fail
  refine (HY.out _).mono ?_
  rintro e_20 w20 ⟨rfl, hb⟩
  have K' := Hold.mem (K) hb
  clear hb K
  have K := K'
  clear K'
  clear q14 f14 q15 f15 z14 z15 sz20
  obtain ⟨_, sz21, _, _, _, _, h4, _, _, _, _, _, _, _, _, _, _, h15, _, _, _⟩ := id K
  have q4 := h4.cell; have f4 := h4.frozen; have z4 := h4.lt
  have q15 := h15.cell; have f15 := h15.frozen; have z15 := h15.lt
  clear h4 h15
  go_wp2_with fail
  refine (HZ.out _).mono ?_
  rintro e_21 w21 ⟨rfl, hb⟩
  have K' := Hold.mem ((K).new #[.complex .f64 yX yY, .int .i64 yR] 27 (n := w20.heap.size) (by first | rfl | (simp <;> omega))) hb
  clear hb K
  have K := K'
  clear K'
  clear q4 f4 q15 f15 z4 z15 sz21
  obtain ⟨_, sz22, _, _, _, h3, _, _, _, _, _, _, _, _, _, _, _, _, _, _, _, _⟩ := id K
  have q3 := h3.cell; have f3 := h3.frozen; have z3 := h3.lt
  clear h3
  go_wp2_with fail
  refine (HM.out _).mono ?_
  rintro e_22 w22 ⟨rfl, hb⟩
  have K' := Hold.mem ((K).new #[.complex .f64 zX zY, .int .i64 zR] 27 (n := w21.heap.size) (by first | rfl | (simp <;> omega))) hb
  clear hb K
  have K := K'
  clear K'
  clear q3 f3 z3 sz22
  obtain ⟨_, sz23, _, _, _, _, _, _, _, _, _, _, _, _, _, _, _, _, _, h17, _, _, _⟩ := id K
  have q17 := h17.cell; have f17 := h17.frozen; have z17 := h17.lt
  clear h17
  go_wp2_with fail
  refine (HG.out _).mono ?_
  rintro e_23 w23 ⟨rfl, hb⟩
  have K' := Hold.mem ((K).new #[.complex .f64 mX mY, .int .i64 mR] 27 (n := w22.heap.size) (by first | rfl | (simp <;> omega))) hb
  clear hb K
  have K := K'
  clear K'
  clear q17 f17 z17 sz23
  obtain ⟨_, sz24, _, _, _, _, _, _, _, _, _, _, _, _, _, _, _, _, _, h17, _, _, _, _⟩ := id K
  have q17 := h17.cell; have f17 := h17.frozen; have z17 := h17.lt
  clear h17
  go_wp2_with fail
  refine (HH.out _).mono ?_
  rintro e_24 w24 ⟨rfl, hb⟩
  have K' := Hold.mem ((K).new #[.complex .f64 gX gY, .int .i64 gR] 27 (n := w23.heap.size) (by first | rfl | (simp <;> omega))) hb
  clear hb K
  have K := K'
  clear K'
  clear q17 f17 z17 sz24
  obtain ⟨_, sz25, h0, _, _, _, _, _, _, _, _, _, _, _, _, _, _, _, _, _, _, _, _, _, _⟩ := id K
  have q0 := h0.cell; have f0 := h0.frozen; have z0 := h0.lt
  clear h0
  go_wp2_with fail
  refine (HN.out _).mono ?_
  rintro e_25 w25 ⟨rfl, hb⟩
  have K' := Hold.mem ((K).new #[.complex .f64 hX hY, .int .i64 hR] 27 (n := w24.heap.size) (by first | rfl | (simp <;> omega))) hb
  clear hb K
  have K := K'
  clear K'
  clear q0 f0 z0 sz25
  obtain ⟨_, sz26, _, _, h2, _, _, _, _, _, _, _, _, _, _, _, _, _, _, _, _, _, _, _, _, _⟩ := id K
  have q2 := h2.cell; have f2 := h2.frozen; have z2 := h2.lt
  clear h2
  go_wp2_with fail
  refine (HM5.out _).mono ?_
  rintro e_26 w26 ⟨rfl, hb⟩
  have K' := Hold.mem ((K).new #[.complex .f64 nX nY, .int .i64 nR] 27 (n := w25.heap.size) (by first | rfl | (simp <;> omega))) hb
  clear hb K
  have K := K'
  clear K'
  clear q2 f2 z2 sz26
  obtain ⟨_, sz27, _, _, _, _, _, _, _, _, _, _, _, _, _, _, _, _, _, _, _, _, _, _, _, _, _⟩ := id K
  go_wp2_with fail
  go_ret
  exact ⟨rfl, (K).below⟩

set_option maxRecDepth 100000 in
set_option maxHeartbeats 2000000 in
theorem alg_no {x0 y0 r0 x1 y1 r1 x2 y2 r2 aR bR cR : Int} {aX aY bX bY cX cY : Nat}
    (HTB : Hid (∀ w, Calls Try.prog 68 #[.agg #[.int .i64 x0, .int .i64 y0, .int .i64 r0, .int .i64 x1, .int .i64 y1, .int .i64 r1, .int .i64 x2, .int .i64 y2, .int .i64 r2]] w (Mem (.tuple #[.agg #[.complex .f64 aX aY, .int .i64 aR, .complex .f64 bX bY, .int .i64 bR, .complex .f64 cX cY, .int .i64 cR], .bool false]) w))) (w : World) :
    Calls Try.prog 15 #[.agg #[.int .i64 x0, .int .i64 y0, .int .i64 r0, .int .i64 x1, .int .i64 y1, .int .i64 r1, .int .i64 x2, .int .i64 y2, .int .i64 r2]] w (Mem (.bool true) w) := by
  have HA := Lib.hid (fun w => balled_any w)
  go_enter Try.func15, Try.ntmps15
  go_wp2_with fail
  have K := (Hold.start w).new #[.int .i64 x0, .int .i64 y0, .int .i64 r0, .int .i64 x1, .int .i64 y1, .int .i64 r1, .int .i64 x2, .int .i64 y2, .int .i64 r2] 83 (n := w.heap.size) (by simp)
  refine (HA.out _).mono ?_
  rintro e_1 w1 ⟨rfl, hb⟩
  have K' := Hold.mem (K) hb
  clear hb K
  have K := K'
  clear K'
  obtain ⟨_, sz1, h0, _⟩ := id K
  have q0 := h0.cell; have f0 := h0.frozen; have z0 := h0.lt
  clear h0
  go_wp2_with fail
  refine (HTB.out _).mono ?_
  rintro e_2 w2 ⟨rfl, hb⟩
  have K' := Hold.mem (K) hb
  clear hb K
  have K := K'
  clear K'
  clear q0 f0 z0 sz1
  obtain ⟨_, sz2, _, _⟩ := id K
  go_wp2_with fail
  go_ret
  exact ⟨rfl, ((K).new #[.complex .f64 aX aY, .int .i64 aR, .complex .f64 bX bY, .int .i64 bR, .complex .f64 cX cY, .int .i64 cR] 84 (n := w2.heap.size) (by first | rfl | (simp <;> omega))).below⟩

end Go.Proofs.Ythkooiopiaakbaa
