/- The contract of balls that are turned. -/
import Derived.Test.YthkooiopiaakbaaHold
import Derived.Test.YthkooiopiaakbaaArc
namespace Go.Proofs.Ythkooiopiaakbaa
open Go.RowKit Go.Lib
attribute [local go_sem] run_store_float run_store_complex
set_option linter.unusedVariables false

def turnX (k x y : Int) : Int := if k = 0 then x else if k = 1 then -y else if k = 2 then -x else y
def turnY (k x y : Int) : Int := if k = 0 then y else if k = 1 then x else if k = 2 then -y else -x
def turnV (x y r q : Int) : Value := if szB q 1000000000 then resB (turnX (q % 4) x y) (turnY (q % 4) x y) r else balV 0 0 0 2

theorem fi_nought0 : fi 0 = 0 := by kernel_rfl
theorem fi_one : fi 1 = 4607182418800017408 := by kernel_rfl
theorem fi_neg : fi (-1) = 13830554455654793216 := by kernel_rfl

theorem and3 (q : Int) : bits .and .i64 q 3 = q % 4 := by
  have m : (BitVec.ofInt 64 3).toNat = 2 ^ 2 - 1 := by decide
  have e : (BitVec.ofInt 64 q &&& BitVec.ofInt 64 3).toNat = (q % ((2 ^ 64 : Nat) : Int)).toNat % 2 ^ 2 := by
    rw [BitVec.toNat_and, BitVec.toNat_ofInt, m, Nat.and_two_pow_sub_one_eq_mod]
  show IntKind.i64.wrap ((BitVec.ofInt 64 q &&& BitVec.ofInt 64 3).toNat : Nat) = q % 4
  rw [e, IntKind.wrap_i64]
  omega

theorem and22 (q : Int) : bits .and .i64 q 4194303 = q % 4194304 := by
  have m : (BitVec.ofInt 64 4194303).toNat = 2 ^ 22 - 1 := by decide
  have e : (BitVec.ofInt 64 q &&& BitVec.ofInt 64 4194303).toNat = (q % ((2 ^ 64 : Nat) : Int)).toNat % 2 ^ 22 := by
    rw [BitVec.toNat_and, BitVec.toNat_ofInt, m, Nat.and_two_pow_sub_one_eq_mod]
  show IntKind.i64.wrap ((BitVec.ofInt 64 q &&& BitVec.ofInt 64 4194303).toNat : Nat) = q % 4194304
  rw [e, IntKind.wrap_i64]
  omega

set_option maxHeartbeats 1000000 in
theorem Turned1_bad {a b : Nat} {r q : Int} {bq : Nat} (hq : szB q 1000000000 = false) (w : World) (hat : At w bq #[.int .i64 q]) :
    Calls Try.prog 92 #[.agg #[.complex .f64 a b, .int .i64 r], .pointer (some ⟨bq, 0, none⟩)] w (Mem (balV 0 0 0 2) w) := by
  have HS := fun w => sized_any q 1000000000 (by decide) (by decide) w
  rw [hq] at HS
  replace HS := Lib.hid HS
  clear hq
  unfold balV
  have q9 := hat.cell; have z9 := hat.lt
  go_enter Try.func92, Try.ntmps92
  go_wp2_with fail
  have K := (((Hold.start w).cons hat).new #[.complex .f64 a b, .int .i64 r] 95 (n := w.heap.size) rfl).new #[.complex .f64 0 0, .int .i64 0] 27 (n := w.heap.size + 1) (by simp)
  clear q9
  refine (HS.out _).mono ?_
  rintro e_0 w' ⟨rfl, rfl⟩
  obtain ⟨_, sz1, h0, h1, h2, _⟩ := id K
  have q0 := h0.cell; have f0 := h0.frozen; have z1_0 := h0.lt
  have q1 := h1.cell; have f1 := h1.frozen; have z1_1 := h1.lt
  have q2 := h2.cell; have f2 := h2.frozen; have z1_2 := h2.lt
  clear h0 h1 h2
  go_wp2_with fail
  refine bodyPost_ret (v := .tuple #[.agg #[.complex .f64 0 0, .int .i64 0], .int .i64 2]) (by simp [results, Try.results92, go_sem, *]) rfl ⟨rfl, ?_⟩
  repeat (first | exact K.below | refine Below.setCell ?_ (by simp <;> omega) _)

set_option maxHeartbeats 2000000 in
theorem Turned1_0 {a b : Nat} {x y r q : Int} {bq : Nat} (h : Cp a b x y) (hc : ckB x y r = 0) (hq : szB q 1000000000 = true) (hk : bits .and .i64 q 3 = 0) (w : World) (hat : At w bq #[.int .i64 q]) :
    Calls Try.prog 92 #[.agg #[.complex .f64 a b, .int .i64 r], .pointer (some ⟨bq, 0, none⟩)] w (Mem (resB (turnX 0 x y) (turnY 0 x y) r) w) := by
  have HS := fun w => sized_any q 1000000000 (by decide) (by decide) w
  rw [hq] at HS
  replace HS := Lib.hid HS
  obtain ⟨⟨x1, x2⟩, ⟨y1, y2⟩, r1, r2⟩ := ckB_ok hc
  have cc : Cp 4607182418800017408 0 1 0 := ⟨by have := Rp_fi 1; rwa [fi_one] at this, by have := Rp_fi 0; rwa [fi_nought0] at this⟩
  obtain ⟨p, t, hpt, hm⟩ := times_any h cc ⟨by omega, by omega⟩ ⟨by omega, by omega⟩ ⟨by decide, by decide⟩ ⟨by decide, by decide⟩ ⟨by omega, by omega⟩ ⟨by omega, by omega⟩ ⟨by omega, by omega⟩ ⟨by omega, by omega⟩ ⟨by omega, by omega⟩ ⟨by omega, by omega⟩
  have HM := Lib.hid hm
  have ex : (x * 1 - y * 0) = turnX 0 x y := by unfold turnX; simp
  have ey : (x * 0 + y * 1) = turnY 0 x y := by unfold turnY; simp
  have HB := fun w => discBall_any r hpt ⟨by omega, by omega⟩ ⟨by omega, by omega⟩ w
  rw [ex, ey] at HB
  obtain ⟨za, zb, zr, ze, hz⟩ := resB_eq (turnX 0 x y) (turnY 0 x y) r
  rw [hz] at HB ⊢
  replace HB := Lib.hid HB
  clear hz ex ey hm hpt cc hc h hq
  unfold balV at *
  have q9 := hat.cell; have z9 := hat.lt
  go_enter Try.func92, Try.ntmps92
  go_wp2_with fail
  have K := (((Hold.start w).cons hat).new #[.complex .f64 a b, .int .i64 r] 95 (n := w.heap.size) rfl).new #[.complex .f64 0 0, .int .i64 0] 27 (n := w.heap.size + 1) (by simp)
  clear q9
  refine (HS.out _).mono ?_
  rintro e_0 w' ⟨rfl, rfl⟩
  obtain ⟨_, sz1, h0, h1, h2, _⟩ := id K
  have q0 := h0.cell; have f0 := h0.frozen; have z1_0 := h0.lt
  have q1 := h1.cell; have f1 := h1.frozen; have z1_1 := h1.lt
  have q2 := h2.cell; have f2 := h2.frozen; have z1_2 := h2.lt
  clear h0 h1 h2
  go_wp2_with fail
  clear q0 f0 q1 f1 q2 f2
  have K' := (K).new #[.complex .f64 4607182418800017408 0, .complex .f64 0 4607182418800017408, .complex .f64 13830554455654793216 0, .complex .f64 0 13830554455654793216] 112 (n := w.heap.size + 1 + 1) (by first | rfl | (simp <;> omega))
  clear K
  have K := K'
  clear K'
  obtain ⟨_, sz2, h0, h1, h2, h3, _⟩ := id K
  have z2_0 := h0.lt; have z2_1 := h1.lt; have z2_2 := h2.lt; have z2_3 := h3.lt
  clear h0 h1 h2 h3
  have hne : Hid (∃ w', Hold w.heap.size w [(w.heap.size + 1 + 1, #[.complex .f64 4607182418800017408 0, .complex .f64 0 4607182418800017408, .complex .f64 13830554455654793216 0, .complex .f64 0 13830554455654793216]), (w.heap.size + 1, #[.complex .f64 0 0, .int .i64 0]), (w.heap.size, #[.complex .f64 a b, .int .i64 r]), (bq, #[.int .i64 q])] w') := ⟨_, K.drew⟩
  refine wp_region_tail (Hold w.heap.size w [(w.heap.size + 1 + 1, #[.complex .f64 4607182418800017408 0, .complex .f64 0 4607182418800017408, .complex .f64 13830554455654793216 0, .complex .f64 0 13830554455654793216]), (w.heap.size + 1, #[.complex .f64 0 0, .int .i64 0]), (w.heap.size, #[.complex .f64 a b, .int .i64 r]), (bq, #[.int .i64 q])]) 11 13 (by kernel_rfl) (by kernel_rfl) (fun _ _ d _ _ h => by cases d <;> exact h) (Hold.lasting _ _ _) K.drew ?_
  simp only [List.take_succ_cons, List.take_zero, List.drop_succ_cons, List.drop_zero]
  clear K
  repeat (first
    | (refine calm_skip (by rfl) ?_; simp only [Act.put, List.setIfInBounds_toArray, List.set_cons_zero, List.set_cons_succ])
    | (refine calm_step hne.out (by rfl) rfl (by simp) ?_; apply Exists.intro; refine ⟨?_, ?_⟩
       · (intro r _ K hK; go_big_quiet_op; first
          | exact hK
          | (apply Exists.intro; refine ⟨fun _ hw => ?_, ?_⟩; (first
             | with_reducible exact rfl
             | with_reducible exact cm_same hw (HM.out _)
             | with_reducible exact cm_mem hw (HB.out _)
             | (obtain ⟨_, _, h0, h1, h2, h3, _⟩ := hw.s; have q0 := h0.cell; have q1 := h1.cell; have q2 := h2.cell; have q3 := h3.cell; clear h0 h1 h2 h3; simp [q0, q1, q2, q3, go_sem]; exact rfl)); exact hK))))
  refine wpCalm_nil ?_
  intro w1 K
  clear hne
  obtain ⟨_, sz3, h0, h1, h2, h3, _⟩ := id K
  have q0 := h0.cell; have f0 := h0.frozen; have z3_0 := h0.lt
  have q1 := h1.cell; have f1 := h1.frozen; have z3_1 := h1.lt
  have q2 := h2.cell; have f2 := h2.frozen; have z3_2 := h2.lt
  have q3 := h3.cell; have f3 := h3.frozen; have z3_3 := h3.lt
  clear h0 h1 h2 h3
  go_wp2_with fail
  refine bodyPost_ret (v := .tuple #[.agg #[.complex .f64 za zb, .int .i64 zr], .int .i64 ze]) (by simp [results, Try.results92, go_sem, *]) rfl ⟨rfl, ?_⟩
  repeat (first | exact K.below | refine Below.setCell ?_ (by simp <;> omega) _)

set_option maxHeartbeats 2000000 in
theorem Turned1_1 {a b : Nat} {x y r q : Int} {bq : Nat} (h : Cp a b x y) (hc : ckB x y r = 0) (hq : szB q 1000000000 = true) (hk : bits .and .i64 q 3 = 1) (w : World) (hat : At w bq #[.int .i64 q]) :
    Calls Try.prog 92 #[.agg #[.complex .f64 a b, .int .i64 r], .pointer (some ⟨bq, 0, none⟩)] w (Mem (resB (turnX 1 x y) (turnY 1 x y) r) w) := by
  have HS := fun w => sized_any q 1000000000 (by decide) (by decide) w
  rw [hq] at HS
  replace HS := Lib.hid HS
  obtain ⟨⟨x1, x2⟩, ⟨y1, y2⟩, r1, r2⟩ := ckB_ok hc
  have cc : Cp 0 4607182418800017408 0 1 := ⟨by have := Rp_fi 0; rwa [fi_nought0] at this, by have := Rp_fi 1; rwa [fi_one] at this⟩
  obtain ⟨p, t, hpt, hm⟩ := times_any h cc ⟨by omega, by omega⟩ ⟨by omega, by omega⟩ ⟨by decide, by decide⟩ ⟨by decide, by decide⟩ ⟨by omega, by omega⟩ ⟨by omega, by omega⟩ ⟨by omega, by omega⟩ ⟨by omega, by omega⟩ ⟨by omega, by omega⟩ ⟨by omega, by omega⟩
  have HM := Lib.hid hm
  have ex : (x * 0 - y * 1) = turnX 1 x y := by unfold turnX; simp
  have ey : (x * 1 + y * 0) = turnY 1 x y := by unfold turnY; simp
  have HB := fun w => discBall_any r hpt ⟨by omega, by omega⟩ ⟨by omega, by omega⟩ w
  rw [ex, ey] at HB
  obtain ⟨za, zb, zr, ze, hz⟩ := resB_eq (turnX 1 x y) (turnY 1 x y) r
  rw [hz] at HB ⊢
  replace HB := Lib.hid HB
  clear hz ex ey hm hpt cc hc h hq
  unfold balV at *
  have q9 := hat.cell; have z9 := hat.lt
  go_enter Try.func92, Try.ntmps92
  go_wp2_with fail
  have K := (((Hold.start w).cons hat).new #[.complex .f64 a b, .int .i64 r] 95 (n := w.heap.size) rfl).new #[.complex .f64 0 0, .int .i64 0] 27 (n := w.heap.size + 1) (by simp)
  clear q9
  refine (HS.out _).mono ?_
  rintro e_0 w' ⟨rfl, rfl⟩
  obtain ⟨_, sz1, h0, h1, h2, _⟩ := id K
  have q0 := h0.cell; have f0 := h0.frozen; have z1_0 := h0.lt
  have q1 := h1.cell; have f1 := h1.frozen; have z1_1 := h1.lt
  have q2 := h2.cell; have f2 := h2.frozen; have z1_2 := h2.lt
  clear h0 h1 h2
  go_wp2_with fail
  clear q0 f0 q1 f1 q2 f2
  have K' := (K).new #[.complex .f64 4607182418800017408 0, .complex .f64 0 4607182418800017408, .complex .f64 13830554455654793216 0, .complex .f64 0 13830554455654793216] 112 (n := w.heap.size + 1 + 1) (by first | rfl | (simp <;> omega))
  clear K
  have K := K'
  clear K'
  obtain ⟨_, sz2, h0, h1, h2, h3, _⟩ := id K
  have z2_0 := h0.lt; have z2_1 := h1.lt; have z2_2 := h2.lt; have z2_3 := h3.lt
  clear h0 h1 h2 h3
  have hne : Hid (∃ w', Hold w.heap.size w [(w.heap.size + 1 + 1, #[.complex .f64 4607182418800017408 0, .complex .f64 0 4607182418800017408, .complex .f64 13830554455654793216 0, .complex .f64 0 13830554455654793216]), (w.heap.size + 1, #[.complex .f64 0 0, .int .i64 0]), (w.heap.size, #[.complex .f64 a b, .int .i64 r]), (bq, #[.int .i64 q])] w') := ⟨_, K.drew⟩
  refine wp_region_tail (Hold w.heap.size w [(w.heap.size + 1 + 1, #[.complex .f64 4607182418800017408 0, .complex .f64 0 4607182418800017408, .complex .f64 13830554455654793216 0, .complex .f64 0 13830554455654793216]), (w.heap.size + 1, #[.complex .f64 0 0, .int .i64 0]), (w.heap.size, #[.complex .f64 a b, .int .i64 r]), (bq, #[.int .i64 q])]) 11 13 (by kernel_rfl) (by kernel_rfl) (fun _ _ d _ _ h => by cases d <;> exact h) (Hold.lasting _ _ _) K.drew ?_
  simp only [List.take_succ_cons, List.take_zero, List.drop_succ_cons, List.drop_zero]
  clear K
  repeat (first
    | (refine calm_skip (by rfl) ?_; simp only [Act.put, List.setIfInBounds_toArray, List.set_cons_zero, List.set_cons_succ])
    | (refine calm_step hne.out (by rfl) rfl (by simp) ?_; apply Exists.intro; refine ⟨?_, ?_⟩
       · (intro r _ K hK; go_big_quiet_op; first
          | exact hK
          | (apply Exists.intro; refine ⟨fun _ hw => ?_, ?_⟩; (first
             | with_reducible exact rfl
             | with_reducible exact cm_same hw (HM.out _)
             | with_reducible exact cm_mem hw (HB.out _)
             | (obtain ⟨_, _, h0, h1, h2, h3, _⟩ := hw.s; have q0 := h0.cell; have q1 := h1.cell; have q2 := h2.cell; have q3 := h3.cell; clear h0 h1 h2 h3; simp [q0, q1, q2, q3, go_sem]; exact rfl)); exact hK))))
  refine wpCalm_nil ?_
  intro w1 K
  clear hne
  obtain ⟨_, sz3, h0, h1, h2, h3, _⟩ := id K
  have q0 := h0.cell; have f0 := h0.frozen; have z3_0 := h0.lt
  have q1 := h1.cell; have f1 := h1.frozen; have z3_1 := h1.lt
  have q2 := h2.cell; have f2 := h2.frozen; have z3_2 := h2.lt
  have q3 := h3.cell; have f3 := h3.frozen; have z3_3 := h3.lt
  clear h0 h1 h2 h3
  go_wp2_with fail
  refine bodyPost_ret (v := .tuple #[.agg #[.complex .f64 za zb, .int .i64 zr], .int .i64 ze]) (by simp [results, Try.results92, go_sem, *]) rfl ⟨rfl, ?_⟩
  repeat (first | exact K.below | refine Below.setCell ?_ (by simp <;> omega) _)

set_option maxHeartbeats 2000000 in
theorem Turned1_2 {a b : Nat} {x y r q : Int} {bq : Nat} (h : Cp a b x y) (hc : ckB x y r = 0) (hq : szB q 1000000000 = true) (hk : bits .and .i64 q 3 = 2) (w : World) (hat : At w bq #[.int .i64 q]) :
    Calls Try.prog 92 #[.agg #[.complex .f64 a b, .int .i64 r], .pointer (some ⟨bq, 0, none⟩)] w (Mem (resB (turnX 2 x y) (turnY 2 x y) r) w) := by
  have HS := fun w => sized_any q 1000000000 (by decide) (by decide) w
  rw [hq] at HS
  replace HS := Lib.hid HS
  obtain ⟨⟨x1, x2⟩, ⟨y1, y2⟩, r1, r2⟩ := ckB_ok hc
  have cc : Cp 13830554455654793216 0 (-1) 0 := ⟨by have := Rp_fi (-1); rwa [fi_neg] at this, by have := Rp_fi 0; rwa [fi_nought0] at this⟩
  obtain ⟨p, t, hpt, hm⟩ := times_any h cc ⟨by omega, by omega⟩ ⟨by omega, by omega⟩ ⟨by decide, by decide⟩ ⟨by decide, by decide⟩ ⟨by omega, by omega⟩ ⟨by omega, by omega⟩ ⟨by omega, by omega⟩ ⟨by omega, by omega⟩ ⟨by omega, by omega⟩ ⟨by omega, by omega⟩
  have HM := Lib.hid hm
  have ex : (x * (-1) - y * 0) = turnX 2 x y := by unfold turnX; simp
  have ey : (x * 0 + y * (-1)) = turnY 2 x y := by unfold turnY; simp
  have HB := fun w => discBall_any r hpt ⟨by omega, by omega⟩ ⟨by omega, by omega⟩ w
  rw [ex, ey] at HB
  obtain ⟨za, zb, zr, ze, hz⟩ := resB_eq (turnX 2 x y) (turnY 2 x y) r
  rw [hz] at HB ⊢
  replace HB := Lib.hid HB
  clear hz ex ey hm hpt cc hc h hq
  unfold balV at *
  have q9 := hat.cell; have z9 := hat.lt
  go_enter Try.func92, Try.ntmps92
  go_wp2_with fail
  have K := (((Hold.start w).cons hat).new #[.complex .f64 a b, .int .i64 r] 95 (n := w.heap.size) rfl).new #[.complex .f64 0 0, .int .i64 0] 27 (n := w.heap.size + 1) (by simp)
  clear q9
  refine (HS.out _).mono ?_
  rintro e_0 w' ⟨rfl, rfl⟩
  obtain ⟨_, sz1, h0, h1, h2, _⟩ := id K
  have q0 := h0.cell; have f0 := h0.frozen; have z1_0 := h0.lt
  have q1 := h1.cell; have f1 := h1.frozen; have z1_1 := h1.lt
  have q2 := h2.cell; have f2 := h2.frozen; have z1_2 := h2.lt
  clear h0 h1 h2
  go_wp2_with fail
  clear q0 f0 q1 f1 q2 f2
  have K' := (K).new #[.complex .f64 4607182418800017408 0, .complex .f64 0 4607182418800017408, .complex .f64 13830554455654793216 0, .complex .f64 0 13830554455654793216] 112 (n := w.heap.size + 1 + 1) (by first | rfl | (simp <;> omega))
  clear K
  have K := K'
  clear K'
  obtain ⟨_, sz2, h0, h1, h2, h3, _⟩ := id K
  have z2_0 := h0.lt; have z2_1 := h1.lt; have z2_2 := h2.lt; have z2_3 := h3.lt
  clear h0 h1 h2 h3
  have hne : Hid (∃ w', Hold w.heap.size w [(w.heap.size + 1 + 1, #[.complex .f64 4607182418800017408 0, .complex .f64 0 4607182418800017408, .complex .f64 13830554455654793216 0, .complex .f64 0 13830554455654793216]), (w.heap.size + 1, #[.complex .f64 0 0, .int .i64 0]), (w.heap.size, #[.complex .f64 a b, .int .i64 r]), (bq, #[.int .i64 q])] w') := ⟨_, K.drew⟩
  refine wp_region_tail (Hold w.heap.size w [(w.heap.size + 1 + 1, #[.complex .f64 4607182418800017408 0, .complex .f64 0 4607182418800017408, .complex .f64 13830554455654793216 0, .complex .f64 0 13830554455654793216]), (w.heap.size + 1, #[.complex .f64 0 0, .int .i64 0]), (w.heap.size, #[.complex .f64 a b, .int .i64 r]), (bq, #[.int .i64 q])]) 11 13 (by kernel_rfl) (by kernel_rfl) (fun _ _ d _ _ h => by cases d <;> exact h) (Hold.lasting _ _ _) K.drew ?_
  simp only [List.take_succ_cons, List.take_zero, List.drop_succ_cons, List.drop_zero]
  clear K
  repeat (first
    | (refine calm_skip (by rfl) ?_; simp only [Act.put, List.setIfInBounds_toArray, List.set_cons_zero, List.set_cons_succ])
    | (refine calm_step hne.out (by rfl) rfl (by simp) ?_; apply Exists.intro; refine ⟨?_, ?_⟩
       · (intro r _ K hK; go_big_quiet_op; first
          | exact hK
          | (apply Exists.intro; refine ⟨fun _ hw => ?_, ?_⟩; (first
             | with_reducible exact rfl
             | with_reducible exact cm_same hw (HM.out _)
             | with_reducible exact cm_mem hw (HB.out _)
             | (obtain ⟨_, _, h0, h1, h2, h3, _⟩ := hw.s; have q0 := h0.cell; have q1 := h1.cell; have q2 := h2.cell; have q3 := h3.cell; clear h0 h1 h2 h3; simp [q0, q1, q2, q3, go_sem]; exact rfl)); exact hK))))
  refine wpCalm_nil ?_
  intro w1 K
  clear hne
  obtain ⟨_, sz3, h0, h1, h2, h3, _⟩ := id K
  have q0 := h0.cell; have f0 := h0.frozen; have z3_0 := h0.lt
  have q1 := h1.cell; have f1 := h1.frozen; have z3_1 := h1.lt
  have q2 := h2.cell; have f2 := h2.frozen; have z3_2 := h2.lt
  have q3 := h3.cell; have f3 := h3.frozen; have z3_3 := h3.lt
  clear h0 h1 h2 h3
  go_wp2_with fail
  refine bodyPost_ret (v := .tuple #[.agg #[.complex .f64 za zb, .int .i64 zr], .int .i64 ze]) (by simp [results, Try.results92, go_sem, *]) rfl ⟨rfl, ?_⟩
  repeat (first | exact K.below | refine Below.setCell ?_ (by simp <;> omega) _)

set_option maxHeartbeats 2000000 in
theorem Turned1_3 {a b : Nat} {x y r q : Int} {bq : Nat} (h : Cp a b x y) (hc : ckB x y r = 0) (hq : szB q 1000000000 = true) (hk : bits .and .i64 q 3 = 3) (w : World) (hat : At w bq #[.int .i64 q]) :
    Calls Try.prog 92 #[.agg #[.complex .f64 a b, .int .i64 r], .pointer (some ⟨bq, 0, none⟩)] w (Mem (resB (turnX 3 x y) (turnY 3 x y) r) w) := by
  have HS := fun w => sized_any q 1000000000 (by decide) (by decide) w
  rw [hq] at HS
  replace HS := Lib.hid HS
  obtain ⟨⟨x1, x2⟩, ⟨y1, y2⟩, r1, r2⟩ := ckB_ok hc
  have cc : Cp 0 13830554455654793216 0 (-1) := ⟨by have := Rp_fi 0; rwa [fi_nought0] at this, by have := Rp_fi (-1); rwa [fi_neg] at this⟩
  obtain ⟨p, t, hpt, hm⟩ := times_any h cc ⟨by omega, by omega⟩ ⟨by omega, by omega⟩ ⟨by decide, by decide⟩ ⟨by decide, by decide⟩ ⟨by omega, by omega⟩ ⟨by omega, by omega⟩ ⟨by omega, by omega⟩ ⟨by omega, by omega⟩ ⟨by omega, by omega⟩ ⟨by omega, by omega⟩
  have HM := Lib.hid hm
  have ex : (x * 0 - y * (-1)) = turnX 3 x y := by unfold turnX; simp
  have ey : (x * (-1) + y * 0) = turnY 3 x y := by unfold turnY; simp
  have HB := fun w => discBall_any r hpt ⟨by omega, by omega⟩ ⟨by omega, by omega⟩ w
  rw [ex, ey] at HB
  obtain ⟨za, zb, zr, ze, hz⟩ := resB_eq (turnX 3 x y) (turnY 3 x y) r
  rw [hz] at HB ⊢
  replace HB := Lib.hid HB
  clear hz ex ey hm hpt cc hc h hq
  unfold balV at *
  have q9 := hat.cell; have z9 := hat.lt
  go_enter Try.func92, Try.ntmps92
  go_wp2_with fail
  have K := (((Hold.start w).cons hat).new #[.complex .f64 a b, .int .i64 r] 95 (n := w.heap.size) rfl).new #[.complex .f64 0 0, .int .i64 0] 27 (n := w.heap.size + 1) (by simp)
  clear q9
  refine (HS.out _).mono ?_
  rintro e_0 w' ⟨rfl, rfl⟩
  obtain ⟨_, sz1, h0, h1, h2, _⟩ := id K
  have q0 := h0.cell; have f0 := h0.frozen; have z1_0 := h0.lt
  have q1 := h1.cell; have f1 := h1.frozen; have z1_1 := h1.lt
  have q2 := h2.cell; have f2 := h2.frozen; have z1_2 := h2.lt
  clear h0 h1 h2
  go_wp2_with fail
  clear q0 f0 q1 f1 q2 f2
  have K' := (K).new #[.complex .f64 4607182418800017408 0, .complex .f64 0 4607182418800017408, .complex .f64 13830554455654793216 0, .complex .f64 0 13830554455654793216] 112 (n := w.heap.size + 1 + 1) (by first | rfl | (simp <;> omega))
  clear K
  have K := K'
  clear K'
  obtain ⟨_, sz2, h0, h1, h2, h3, _⟩ := id K
  have z2_0 := h0.lt; have z2_1 := h1.lt; have z2_2 := h2.lt; have z2_3 := h3.lt
  clear h0 h1 h2 h3
  have hne : Hid (∃ w', Hold w.heap.size w [(w.heap.size + 1 + 1, #[.complex .f64 4607182418800017408 0, .complex .f64 0 4607182418800017408, .complex .f64 13830554455654793216 0, .complex .f64 0 13830554455654793216]), (w.heap.size + 1, #[.complex .f64 0 0, .int .i64 0]), (w.heap.size, #[.complex .f64 a b, .int .i64 r]), (bq, #[.int .i64 q])] w') := ⟨_, K.drew⟩
  refine wp_region_tail (Hold w.heap.size w [(w.heap.size + 1 + 1, #[.complex .f64 4607182418800017408 0, .complex .f64 0 4607182418800017408, .complex .f64 13830554455654793216 0, .complex .f64 0 13830554455654793216]), (w.heap.size + 1, #[.complex .f64 0 0, .int .i64 0]), (w.heap.size, #[.complex .f64 a b, .int .i64 r]), (bq, #[.int .i64 q])]) 11 13 (by kernel_rfl) (by kernel_rfl) (fun _ _ d _ _ h => by cases d <;> exact h) (Hold.lasting _ _ _) K.drew ?_
  simp only [List.take_succ_cons, List.take_zero, List.drop_succ_cons, List.drop_zero]
  clear K
  repeat (first
    | (refine calm_skip (by rfl) ?_; simp only [Act.put, List.setIfInBounds_toArray, List.set_cons_zero, List.set_cons_succ])
    | (refine calm_step hne.out (by rfl) rfl (by simp) ?_; apply Exists.intro; refine ⟨?_, ?_⟩
       · (intro r _ K hK; go_big_quiet_op; first
          | exact hK
          | (apply Exists.intro; refine ⟨fun _ hw => ?_, ?_⟩; (first
             | with_reducible exact rfl
             | with_reducible exact cm_same hw (HM.out _)
             | with_reducible exact cm_mem hw (HB.out _)
             | (obtain ⟨_, _, h0, h1, h2, h3, _⟩ := hw.s; have q0 := h0.cell; have q1 := h1.cell; have q2 := h2.cell; have q3 := h3.cell; clear h0 h1 h2 h3; simp [q0, q1, q2, q3, go_sem]; exact rfl)); exact hK))))
  refine wpCalm_nil ?_
  intro w1 K
  clear hne
  obtain ⟨_, sz3, h0, h1, h2, h3, _⟩ := id K
  have q0 := h0.cell; have f0 := h0.frozen; have z3_0 := h0.lt
  have q1 := h1.cell; have f1 := h1.frozen; have z3_1 := h1.lt
  have q2 := h2.cell; have f2 := h2.frozen; have z3_2 := h2.lt
  have q3 := h3.cell; have f3 := h3.frozen; have z3_3 := h3.lt
  clear h0 h1 h2 h3
  go_wp2_with fail
  refine bodyPost_ret (v := .tuple #[.agg #[.complex .f64 za zb, .int .i64 zr], .int .i64 ze]) (by simp [results, Try.results92, go_sem, *]) rfl ⟨rfl, ?_⟩
  repeat (first | exact K.below | refine Below.setCell ?_ (by simp <;> omega) _)

theorem turnV_eq (x y r q : Int) : ∃ za zb zr ze, turnV x y r q = balV za zb zr ze := by
  unfold turnV; split
  · exact resB_eq _ _ _
  · exact ⟨_, _, _, _, rfl⟩

theorem Turned1_any {a b : Nat} {x y r q : Int} {bq : Nat} (h : Cp a b x y) (hc : ckB x y r = 0) (w : World) (hat : At w bq #[.int .i64 q]) :
    Calls Try.prog 92 #[.agg #[.complex .f64 a b, .int .i64 r], .pointer (some ⟨bq, 0, none⟩)] w (Mem (turnV x y r q) w) := by
  have hk := and3 q
  unfold turnV
  cases hq : szB q 1000000000 with
  | false => simp only [Bool.false_eq_true, if_false]; exact Turned1_bad hq w hat
  | true =>
    simp only [if_true]
    have h4 : q % 4 = 0 ∨ q % 4 = 1 ∨ q % 4 = 2 ∨ q % 4 = 3 := by omega
    rcases h4 with e | e | e | e <;> rw [e] at hk ⊢
    · exact Turned1_0 h hc hq hk w hat
    · exact Turned1_1 h hc hq hk w hat
    · exact Turned1_2 h hc hq hk w hat
    · exact Turned1_3 h hc hq hk w hat

set_option maxHeartbeats 1000000 in
theorem Turned_of {a b : Nat} {r q : Int} {za zb : Nat} {zr ze : Int} (w : World)
    (HK : Hid (∀ W, At W (w.heap.size + 1) #[.int .i64 q] → Calls Try.prog 89 #[.agg #[.complex .f64 a b, .int .i64 r], .func (.func 92) #[] #[.pointer (some ⟨w.heap.size + 1, 0, none⟩)]] W (Mem (balV za zb zr ze) W))) :
    Calls Try.prog 27 #[.agg #[.complex .f64 a b, .int .i64 r], .int .i64 q] w (Mem (balV za zb zr ze) w) := by
  go_enter Try.func27, Try.ntmps27
  go_wp2_with fail
  have K := (((Hold.start w).new #[.complex .f64 a b, .int .i64 r] 27 (n := w.heap.size) (by simp)).new #[.int .i64 q] 3 (n := w.heap.size + 1) (by simp)).new #[.complex .f64 0 0, .int .i64 0] 27 (n := w.heap.size + 1 + 1) (by simp)
  obtain ⟨_, sz1, h0, h1, h2, _⟩ := id K
  have z1_0 := h0.lt; have z1_1 := h1.lt; have z1_2 := h2.lt
  clear h0 h1 h2
  refine (HK.out _ (K.at _ _ (by simp))).mono ?_
  rintro e_1 w1 ⟨rfl, hb⟩
  have K' := Hold.mem K hb
  clear hb K
  have K := K'
  clear K'
  obtain ⟨_, sz2, h0, h1, h2, _⟩ := id K
  have q0 := h0.cell; have f0 := h0.frozen; have z2_0 := h0.lt
  have q1 := h1.cell; have f1 := h1.frozen; have z2_1 := h1.lt
  have q2 := h2.cell; have f2 := h2.frozen; have z2_2 := h2.lt
  clear h0 h1 h2
  unfold balV
  go_wp2_with fail
  refine bodyPost_ret (v := .tuple #[.agg #[.complex .f64 za zb, .int .i64 zr], .int .i64 ze]) (by simp [results, Try.results27, go_sem, *]) rfl ⟨rfl, ?_⟩
  repeat (first | exact K.below | refine Below.setCell ?_ (by simp <;> omega) _)

theorem Turned_any {a b : Nat} {x y : Int} (r q : Int) (h : Cp a b x y) (hx : InF x) (hy : InF y) (w : World) :
    Calls Try.prog 27 #[.agg #[.complex .f64 a b, .int .i64 r], .int .i64 q] w (Mem (if ckB x y r = 0 then turnV x y r q else balV 0 0 0 2) w) := by
  rcases ckB_cases x y r with h1 | h1
  · rw [if_pos h1]
    have HE := Lib.hid (ent_of Try.func92 (by kernel_rfl) rfl)
    obtain ⟨za, zb, zr, ze, hz⟩ := turnV_eq x y r q
    rw [hz]
    refine Turned_of w (Lib.hid fun W hat => ofOneBall_ok r h hx hy h1 HE (Lib.hid fun W' hb => ?_))
    have := Turned1_any h h1 W' (hat.below hb)
    rwa [hz] at this
  · rw [if_neg (by rw [h1]; simp)]
    exact Turned_of w (Lib.hid fun W _ => ofOneBall_bad r h hx hy h1 _ W)

end Go.Proofs.Ythkooiopiaakbaa
