/- The reference's roots: Root and RealRoot. -/
import Derived.Test.YthodhenhmjgodaaRroo
namespace Go.Proofs.Ythodhenhmjgodaa
open Go.RowKit Go.Lib
attribute [local go_sem] run_store_float run_store_complex
set_option linter.unusedVariables false

def rootRefV (x y r : Int) : Value := if dn x y ≤ r then refV 0 0 0 9 else if x < 0 ∧ szB y r = true ∧ r ≠ 0 then refV 0 0 0 14 else chkV (rtX x y) (rtY x y) (rtR x y r)

theorem szB_rtA (y r : Int) : szB y r = decide (rtA y ≤ r) := by
  unfold szB rtA
  rw [Bool.eq_iff_iff]
  simp only [Bool.and_eq_true, decide_eq_true_eq]
  split <;> omega

theorem refRoot_any {x y r : Int} (hc : ckB x y r = 0) (w : World) : Calls Try.prog 45 #[.agg #[.int .i64 x, .int .i64 y, .int .i64 r]] w (Mem (rootRefV x y r) w) := by
  obtain ⟨hx, hy, hr0, hr⟩ := ckB_ok hc
  have hx' : Sm 134217728 x := ⟨by have := hx.1; omega, by have := hx.2; omega⟩
  have hy' : Sm 134217728 y := ⟨by have := hy.1; omega, by have := hy.2; omega⟩
  have HD := Lib.hid (fun w => refDown_any r hx' hy' w)
  have HS := Lib.hid (fun w => Size_any y ⟨by have := hy.1; omega, by have := hy.2; omega⟩ w)
  unfold rootRefV
  by_cases hz : dn x y ≤ r
  · rw [if_pos hz]; exact refRoot_zero hz HD w
  rw [if_neg hz]
  obtain ⟨b1, b2, b3, b4, b5, b6, b7, b8, b9, b10, b11, b12, b13, b14, b15⟩ := rt_bd hc hz
  have hs := szB_rtA y r
  by_cases hk : x < 0 ∧ szB y r = true ∧ r ≠ 0
  · rw [if_pos hk]
    exact refRoot_clash hz hk.1 hk.2.2 (rtA y) (by rw [hs] at hk; simpa using hk.2.1) HS HD w
  rw [if_neg hk]
  have HT := Lib.hid (fun w => base_Root (dn x y * 1048576) (by omega) (by omega) w)
  have HG := fun w => base_Root ((dn x y + rtA x) * 524288) (by omega) (by omega) w
  have HC1 := Lib.hid (fun w => Ceil_any (r * 1048576) (rti (dn x y * 1048576)) (by omega) (by omega) (by omega) (by omega) w)
  have HC2 := Lib.hid (fun w => Ceil_any 1048576 (rtG x y) (by decide) (by decide) (by omega) (by omega) w)
  have dl : ∀ z : Int, Sm 67108864 z → -268435456 ≤ z / (2 * rtG x y) ∧ z / (2 * rtG x y) ≤ 268435456 := fun z hz => quot_in (by omega) ⟨by have := hz.1; omega, by have := hz.2; omega⟩
  have HL := fun (z : Int) (hz : Sm 67108864 z) => Lib.hid (fun w => scaledRounded_in (n := z) (d := 2 * rtG x y) ⟨by have := hz.1; omega, by have := hz.2; omega⟩ (by omega) (by omega) (dl z hz) w)
  have hG : rti ((dn x y + rtA x) * 524288) = rtG x y := rfl
  rw [hG] at HG
  have hay : Sm 67108864 (rtA y) := ⟨by omega, by omega⟩
  unfold rtX rtY rtR
  unfold rtL
  by_cases h0 : 0 ≤ x
  · have eA : rtA x = x := by unfold rtA; rw [if_pos h0]
    rw [eA] at HG
    simp only [if_pos h0]
    exact refRoot_0 (A := 0) _ false hz hx hy ⟨hr0, hr⟩ ⟨by omega, b2⟩ ⟨by omega, by omega⟩ ⟨b12, b13⟩ ⟨b14, b15⟩ h0 (Lib.hid HG) (HL y hy) HT HC1 HC2 HD w
  · have eA : rtA x = -x := by unfold rtA; rw [if_neg h0]
    rw [eA, ← Int.sub_eq_add_neg] at HG
    simp only [if_neg h0]
    have hA : (¬ rtA y ≤ r) ∨ (rtA y ≤ r ∧ r = 0) := by
      by_cases h : rtA y ≤ r
      · exact .inr ⟨h, Classical.byContradiction fun hne => hk ⟨by omega, by rw [hs]; simpa using h, hne⟩⟩
      · exact .inl h
    rcases hA with hA | ⟨hA, hr'⟩
    · by_cases h1 : 0 ≤ y
      · simp only [if_pos h1]
        exact refRoot_1a _ false hz hx hy ⟨hr0, hr⟩ ⟨by omega, b2⟩ ⟨by omega, by omega⟩ ⟨b12, b13⟩ ⟨b14, b15⟩ (by omega) h1 hA HS (Lib.hid HG) (HL _ hay) HT HC1 HC2 HD w
      · simp only [if_neg h1]
        exact refRoot_2a _ false hz hx hy ⟨hr0, hr⟩ ⟨by omega, b2⟩ ⟨by omega, by omega⟩ ⟨b12, b13⟩ ⟨b14, b15⟩ (by omega) (by omega) hA HS (Lib.hid HG) (HL _ hay) HT HC1 HC2 HD w
    · subst hr'
      rw [Int.zero_mul] at HC1 b12 b13 ⊢
      by_cases h1 : 0 ≤ y
      · simp only [if_pos h1]
        exact refRoot_1b (r := 0) _ false hz hx hy ⟨hr0, hr⟩ ⟨by omega, b2⟩ ⟨by omega, by omega⟩ ⟨b12, b13⟩ ⟨b14, b15⟩ (by omega) h1 hA rfl HS (Lib.hid HG) (HL _ hay) HT HC1 HC2 HD w
      · simp only [if_neg h1]
        exact refRoot_2b (r := 0) _ false hz hx hy ⟨hr0, hr⟩ ⟨by omega, b2⟩ ⟨by omega, by omega⟩ ⟨b12, b13⟩ ⟨b14, b15⟩ (by omega) (by omega) hA rfl HS (Lib.hid HG) (HL _ hay) HT HC1 HC2 HD w

theorem pair_root {x y r : Int} (hc : ckB x y r = 0) : Pair (rootV x y r) (rootRefV x y r) := by
  unfold rootV rootRefV
  by_cases hz : dn x y ≤ r
  · rw [if_pos hz, if_pos hz]; exact ⟨0, 0, 0, 9, by rw [fi_nought], rfl⟩
  rw [if_neg hz, if_neg hz]
  obtain ⟨b1, b2, b3, b4, b5, b6, b7, b8, b9, b10, b11, b12, b13, b14, b15⟩ := rt_bd hc hz
  split
  · exact ⟨0, 0, 0, 14, by rw [fi_nought], rfl⟩
  · exact pair_res (by unfold rtR; omega)

/-! RealRoot of the reference. -/
def rrRefV (lo hi : Int) : Value := if ckR lo hi 67108864 = 0 then (if 0 ≤ lo then refV (rrM lo hi) 0 (rrD lo hi) 0 else if hi ≤ 0 then refV 0 (rrM (-hi) (-lo)) (rrD (-hi) (-lo)) 0 else refV 0 0 0 14) else refV 0 0 0 (ckR lo hi 67108864)

theorem refRange_ok0 {lo hi : Int} (hc : ckR lo hi 67108864 = 0) : ∃ M D, refRangeV lo hi = refV M 0 D 0 := by
  obtain ⟨⟨l1, l2⟩, ⟨g1, g2⟩, hle⟩ := ckR_ok hc
  unfold refRangeV
  rw [if_pos hc]
  unfold chkV
  have : chkB ((lo + hi) / 2) 0 (hi - (lo + hi) / 2) = true := by
    unfold chkB szB wiB; simp; omega
  rw [if_pos this]
  exact ⟨_, _, rfl⟩

theorem refRange_pos {lo hi : Int} (h0 : 0 ≤ lo) (h1 : lo ≤ hi) (h2 : hi ≤ 67108864) : refRangeV (rti (lo * 1048576)) (rtu (hi * 1048576)) = refV (rrM lo hi) 0 (rrD lo hi) 0 := by
  obtain ⟨b1, b2, b3, b4, b5, b6⟩ := rr_bd h0 h1 h2
  unfold refRangeV
  rw [if_pos b4]
  show chkV (rrM lo hi) 0 (rrD lo hi) = _
  obtain ⟨_, _, d0, _⟩ := ckB_ok b5
  have : chkB (rrM lo hi) 0 (rrD lo hi) = true := by
    unfold okB at b6
    simp only [Bool.and_eq_true] at b6
    unfold chkB wiB
    rw [b6.1.1, b6.1.2]
    simp at b6 ⊢
    omega
  unfold chkV
  rw [if_pos this]

set_option maxHeartbeats 2000000 in
theorem refRR_bad {lo hi c M Dd : Int} (hc : c ≠ 0)
    (HO : Hid (∀ w, Calls Try.prog 20 #[.agg #[.int .i64 lo, .int .i64 hi]] w (Mem (.tuple #[.agg #[.int .i64 M, .int .i64 0, .int .i64 Dd], .int .i64 c]) w))) (w : World) :
    Calls Try.prog 46 #[.agg #[.int .i64 lo, .int .i64 hi]] w (Mem (refV 0 0 0 c) w) := by
  unfold refV
  have g0 : (c != 0) = true := by simpa using hc
  have g1 : (c == 0) = false := by simpa using hc
  clear hc
  go_enter Try.func46, Try.ntmps46
  go_wp2_with fail
  have K := ((Hold.start w).new #[.int .i64 lo, .int .i64 hi] 23 (n := w.heap.size) (by simp)).new #[.int .i64 0, .int .i64 0, .int .i64 0] 33 (n := w.heap.size + 1) (by simp)
  refine (HO.out _).mono ?_
  rintro e_1 w1 ⟨rfl, hb⟩
  have K' := Hold.mem (K) hb
  clear hb K
  have K := K'
  clear K'
  obtain ⟨_, sz1, h0, h1, _⟩ := id K
  have q0 := h0.cell; have f0 := h0.frozen; have z1_0 := h0.lt
  have q1 := h1.cell; have f1 := h1.frozen; have z1_1 := h1.lt
  clear h0 h1
  go_wp2_with fail
  refine bodyPost_ret (v := .tuple #[.agg #[.int .i64 0, .int .i64 0, .int .i64 0], .int .i64 c]) (by simp [results, Try.results46, go_sem, *]) rfl ⟨rfl, ?_⟩
  repeat (first | exact K.below | refine Below.setCell ?_ (by simp <;> omega) _ | refine Below.alloc ?_ (by first | exact K.size | (simp <;> omega)) _)

set_option maxHeartbeats 2000000 in
theorem refRR_mid {lo hi c M Dd : Int} (hc : c = 0) (h0 : lo < 0) (h1 : 0 < hi)
    (HO : Hid (∀ w, Calls Try.prog 20 #[.agg #[.int .i64 lo, .int .i64 hi]] w (Mem (.tuple #[.agg #[.int .i64 M, .int .i64 0, .int .i64 Dd], .int .i64 c]) w))) (w : World) :
    Calls Try.prog 46 #[.agg #[.int .i64 lo, .int .i64 hi]] w (Mem (refV 0 0 0 14) w) := by
  unfold refV
  subst hc
  have g0 : decide (0 ≤ lo) = false := by simpa using h0
  have g1 : decide (0 < hi) = true := by simpa using h1
  go_enter Try.func46, Try.ntmps46
  go_wp2_with fail
  have K := ((Hold.start w).new #[.int .i64 lo, .int .i64 hi] 23 (n := w.heap.size) (by simp)).new #[.int .i64 0, .int .i64 0, .int .i64 0] 33 (n := w.heap.size + 1) (by simp)
  refine (HO.out _).mono ?_
  rintro e_1 w1 ⟨rfl, hb⟩
  have K' := Hold.mem (K) hb
  clear hb K
  have K := K'
  clear K'
  obtain ⟨_, sz1, h0, h1, _⟩ := id K
  have q0 := h0.cell; have f0 := h0.frozen; have z1_0 := h0.lt
  have q1 := h1.cell; have f1 := h1.frozen; have z1_1 := h1.lt
  clear h0 h1
  go_wp2_with fail
  refine bodyPost_ret (v := .tuple #[.agg #[.int .i64 0, .int .i64 0, .int .i64 0], .int .i64 14]) (by simp [results, Try.results46, go_sem, *]) rfl ⟨rfl, ?_⟩
  repeat (first | exact K.below | refine Below.setCell ?_ (by simp <;> omega) _ | refine Below.alloc ?_ (by first | exact K.size | (simp <;> omega)) _)

set_option maxHeartbeats 2000000 in
theorem refRR_pos {lo hi c M Dd : Int} {a b X Y R : Int} (hc : c = 0) (h0 : 0 ≤ lo) (l1 : lo ≤ 67108864) (g1 : 0 ≤ hi) (g2 : hi ≤ 67108864)
    (HA : Hid (∀ w, Calls Try.prog 115 #[.int .i64 (lo * 1048576)] w (Quiet (.int .i64 a) w)))
    (HB : Hid (∀ w, Calls Try.prog 116 #[.int .i64 (hi * 1048576)] w (Quiet (.int .i64 b) w)))
    (HP : Hid (∀ w, Calls Try.prog 20 #[.agg #[.int .i64 a, .int .i64 b]] w (Mem (.tuple #[.agg #[.int .i64 X, .int .i64 Y, .int .i64 R], .int .i64 0]) w)))
    (HO : Hid (∀ w, Calls Try.prog 20 #[.agg #[.int .i64 lo, .int .i64 hi]] w (Mem (.tuple #[.agg #[.int .i64 M, .int .i64 0, .int .i64 Dd], .int .i64 c]) w))) (w : World) :
    Calls Try.prog 46 #[.agg #[.int .i64 lo, .int .i64 hi]] w (Mem (refV X Y R 0) w) := by
  unfold refV
  subst hc
  have e0 : decide (0 ≤ lo) = true := by simpa using h0
  have v1 : IntKind.i64.wrap (lo * 1048576) = lo * 1048576 := IntWalk.i64_in _ (by omega)
  have v2 : IntKind.i64.wrap (hi * 1048576) = hi * 1048576 := IntWalk.i64_in _ (by omega)
  go_enter Try.func46, Try.ntmps46
  go_wp2_with fail
  have K := ((Hold.start w).new #[.int .i64 lo, .int .i64 hi] 23 (n := w.heap.size) (by simp)).new #[.int .i64 0, .int .i64 0, .int .i64 0] 33 (n := w.heap.size + 1) (by simp)
  refine (HO.out _).mono ?_
  rintro e_1 w1 ⟨rfl, hb⟩
  have K' := Hold.mem (K) hb
  clear hb K
  have K := K'
  clear K'
  obtain ⟨_, sz1, h0, h1, _⟩ := id K
  have q0 := h0.cell; have f0 := h0.frozen; have z1_0 := h0.lt
  have q1 := h1.cell; have f1 := h1.frozen; have z1_1 := h1.lt
  clear h0 h1
  go_wp2_with fail
  clear q0 f0 q1 f1
  have K' := (K).new #[.int .i64 M, .int .i64 0, .int .i64 Dd] 33 (n := w1.heap.size) (by first | rfl | (simp <;> omega))
  clear K
  have K := K'
  clear K'
  obtain ⟨_, sz2, h0, h1, h2, _⟩ := id K
  have z2_0 := h0.lt; have z2_1 := h1.lt; have z2_2 := h2.lt
  clear h0 h1 h2
  have hne : Hid (∃ w', Hold w.heap.size w [(w1.heap.size, #[.int .i64 M, .int .i64 0, .int .i64 Dd]), (w.heap.size + 1, #[.int .i64 0, .int .i64 0, .int .i64 0]), (w.heap.size, #[.int .i64 lo, .int .i64 hi])] w') := ⟨_, K.drew⟩
  refine wp_region_tail (Hold w.heap.size w [(w1.heap.size, #[.int .i64 M, .int .i64 0, .int .i64 Dd]), (w.heap.size + 1, #[.int .i64 0, .int .i64 0, .int .i64 0]), (w.heap.size, #[.int .i64 lo, .int .i64 hi])]) 10 12 (by kernel_rfl) (by kernel_rfl) (fun _ _ d _ _ h => by cases d <;> exact h) (Hold.lasting _ _ _) K.drew ?_
  simp only [List.take_succ_cons, List.take_zero, List.drop_succ_cons, List.drop_zero]
  clear K
  repeat (first
    | (refine calm_skip (by rfl) ?_; simp only [Act.put, List.setIfInBounds_toArray, List.set_cons_zero, List.set_cons_succ])
    | (refine calm_step hne.out (by rfl) rfl (by simp) ?_; apply Exists.intro; refine ⟨?_, ?_⟩
       · (intro r _ K hK; go_big_quiet_op; first
          | exact hK
          | (apply Exists.intro; refine ⟨fun _ hw => ?_, ?_⟩; (first
             | with_reducible exact rfl
             | with_reducible exact cm_quiet hw (HA.out _)
             | with_reducible exact cm_quiet hw (HB.out _)
             | with_reducible exact cm_mem hw (HP.out _)
             | (obtain ⟨_, _, h0, h1, h2, _⟩ := hw.s; have q0 := h0.cell; have q1 := h1.cell; have q2 := h2.cell; clear h0 h1 h2; simp [q0, q1, q2, go_sem]; exact rfl)); exact hK))))
  refine wpCalm_nil ?_
  intro w2 K
  clear hne
  obtain ⟨_, sz3, h0, h1, h2, _⟩ := id K
  have q0 := h0.cell; have f0 := h0.frozen; have z3_0 := h0.lt
  have q1 := h1.cell; have f1 := h1.frozen; have z3_1 := h1.lt
  have q2 := h2.cell; have f2 := h2.frozen; have z3_2 := h2.lt
  clear h0 h1 h2
  go_wp2_with fail
  refine bodyPost_ret (v := .tuple #[.agg #[.int .i64 X, .int .i64 Y, .int .i64 R], .int .i64 0]) (by simp [results, Try.results46, go_sem, *]) rfl ⟨rfl, ?_⟩
  repeat (first | exact K.below | refine Below.setCell ?_ (by simp <;> omega) _)

set_option maxHeartbeats 2000000 in
theorem refRR_neg {lo hi c M Dd : Int} {a b X Y R X' Y' R' : Int} (hc : c = 0) (h0 : lo < 0) (h1 : hi ≤ 0) (l1 : -67108864 ≤ lo) (g1 : -67108864 ≤ hi)
    (HA : Hid (∀ w, Calls Try.prog 115 #[.int .i64 (-hi * 1048576)] w (Quiet (.int .i64 a) w)))
    (HB : Hid (∀ w, Calls Try.prog 116 #[.int .i64 (-lo * 1048576)] w (Quiet (.int .i64 b) w)))
    (HP : Hid (∀ w, Calls Try.prog 20 #[.agg #[.int .i64 a, .int .i64 b]] w (Mem (.tuple #[.agg #[.int .i64 X, .int .i64 Y, .int .i64 R], .int .i64 0]) w)))
    (HT : Hid (∀ w, Calls Try.prog 32 #[.agg #[.int .i64 X, .int .i64 Y, .int .i64 R], .int .i64 1] w (Mem (.agg #[.int .i64 X', .int .i64 Y', .int .i64 R']) w)))
    (HO : Hid (∀ w, Calls Try.prog 20 #[.agg #[.int .i64 lo, .int .i64 hi]] w (Mem (.tuple #[.agg #[.int .i64 M, .int .i64 0, .int .i64 Dd], .int .i64 c]) w))) (w : World) :
    Calls Try.prog 46 #[.agg #[.int .i64 lo, .int .i64 hi]] w (Mem (refV X' Y' R' 0) w) := by
  unfold refV
  subst hc
  have e0 : decide (0 ≤ lo) = false := by simpa using h0
  have e1 : decide (0 < hi) = false := by simpa using h1
  have v1 : IntKind.i64.wrap (-lo * 1048576) = -lo * 1048576 := IntWalk.i64_in _ (by omega)
  have v2 : IntKind.i64.wrap (-hi * 1048576) = -hi * 1048576 := IntWalk.i64_in _ (by omega)
  go_enter Try.func46, Try.ntmps46
  go_wp2_with fail
  have K := ((Hold.start w).new #[.int .i64 lo, .int .i64 hi] 23 (n := w.heap.size) (by simp)).new #[.int .i64 0, .int .i64 0, .int .i64 0] 33 (n := w.heap.size + 1) (by simp)
  refine (HO.out _).mono ?_
  rintro e_1 w1 ⟨rfl, hb⟩
  have K' := Hold.mem (K) hb
  clear hb K
  have K := K'
  clear K'
  obtain ⟨_, sz1, h0, h1, _⟩ := id K
  have q0 := h0.cell; have f0 := h0.frozen; have z1_0 := h0.lt
  have q1 := h1.cell; have f1 := h1.frozen; have z1_1 := h1.lt
  clear h0 h1
  go_wp2_with fail
  clear q0 f0 q1 f1
  have K' := (K).new #[.int .i64 M, .int .i64 0, .int .i64 Dd] 33 (n := w1.heap.size) (by first | rfl | (simp <;> omega))
  clear K
  have K := K'
  clear K'
  obtain ⟨_, sz2, h0, h1, h2, _⟩ := id K
  have z2_0 := h0.lt; have z2_1 := h1.lt; have z2_2 := h2.lt
  clear h0 h1 h2
  have hne : Hid (∃ w', Hold w.heap.size w [(w1.heap.size, #[.int .i64 M, .int .i64 0, .int .i64 Dd]), (w.heap.size + 1, #[.int .i64 0, .int .i64 0, .int .i64 0]), (w.heap.size, #[.int .i64 lo, .int .i64 hi])] w') := ⟨_, K.drew⟩
  refine wp_region_float (Hold w.heap.size w [(w1.heap.size, #[.int .i64 M, .int .i64 0, .int .i64 Dd]), (w.heap.size + 1, #[.int .i64 0, .int .i64 0, .int .i64 0]), (w.heap.size, #[.int .i64 lo, .int .i64 hi])]) 12 15 6 (by kernel_rfl) (by kernel_rfl) (fun _ _ d _ _ h => by cases d <;> exact h) (Hold.lasting _ _ _) K.drew (c := #[.int .i64 0, .int .i64 0, .int .i64 0]) rfl ⟨rfl, rfl, fun _ _ => ⟨_, by go_simp; exact rfl⟩⟩ ?_
  simp only [List.take_succ_cons, List.take_zero, List.drop_succ_cons, List.drop_zero]
  clear K
  repeat (first
    | (refine calm_skip (by rfl) ?_; simp only [Act.put, List.setIfInBounds_toArray, List.set_cons_zero, List.set_cons_succ])
    | (refine calm_step hne.out (by rfl) rfl (by simp) ?_; apply Exists.intro; refine ⟨?_, ?_⟩
       · (intro r _ K hK; go_big_quiet_op; first
          | exact hK
          | (apply Exists.intro; refine ⟨fun _ hw => ?_, ?_⟩; (first
             | with_reducible exact rfl
             | with_reducible exact cm_quiet hw (HA.out _)
             | with_reducible exact cm_quiet hw (HB.out _)
             | with_reducible exact cm_mem hw (HP.out _)
             | (obtain ⟨_, _, h0, h1, h2, _⟩ := hw.s; have q0 := h0.cell; have q1 := h1.cell; have q2 := h2.cell; clear h0 h1 h2; simp [q0, q1, q2, go_sem]; exact rfl)); exact hK))))
  refine wpCalm_nil ?_
  intro b6 w2 hge_b6 K ha
  clear hne
  have K' := K.cons ha
  clear ha K
  have K := K'
  clear K'
  simp only [Act.put, List.setIfInBounds_toArray, List.set_cons_zero, List.set_cons_succ]
  obtain ⟨_, sz3, h0, h1, h2, h3, _⟩ := id K
  have q0 := h0.cell; have f0 := h0.frozen; have z3_0 := h0.lt
  have q1 := h1.cell; have f1 := h1.frozen; have z3_1 := h1.lt
  have q2 := h2.cell; have f2 := h2.frozen; have z3_2 := h2.lt
  have q3 := h3.cell; have f3 := h3.frozen; have z3_3 := h3.lt
  clear h0 h1 h2 h3
  go_wp2_with fail
  refine (HT.out _).mono ?_
  rintro e_3 w3 ⟨rfl, hb⟩
  have K' := Hold.mem ((K).set3 (v0 := .int .i64 X) (v1 := .int .i64 Y) (v2 := .int .i64 R) (by omega) (by simp <;> omega)) hb
  clear hb K
  have K := K'
  clear K'
  clear q0 f0 q1 f1 q2 f2 q3 f3
  obtain ⟨_, sz4, h0, h1, h2, h3, _⟩ := id K
  have q0 := h0.cell; have f0 := h0.frozen; have z4_0 := h0.lt
  have q1 := h1.cell; have f1 := h1.frozen; have z4_1 := h1.lt
  have q2 := h2.cell; have f2 := h2.frozen; have z4_2 := h2.lt
  have q3 := h3.cell; have f3 := h3.frozen; have z4_3 := h3.lt
  clear h0 h1 h2 h3
  go_wp2_with fail
  refine bodyPost_ret (v := .tuple #[.agg #[.int .i64 X', .int .i64 Y', .int .i64 R'], .int .i64 0]) (by simp [results, Try.results46, go_sem, *]) rfl ⟨rfl, ?_⟩
  repeat (first | exact K.below | refine Below.setCell ?_ (by simp <;> omega) _)

theorem refRR_any (lo hi : Int) (w : World) : Calls Try.prog 46 #[.agg #[.int .i64 lo, .int .i64 hi]] w (Mem (rrRefV lo hi) w) := by
  have HO := fun w => RefRange_any lo hi w
  unfold rrRefV
  by_cases hc : ckR lo hi 67108864 = 0
  · rw [if_pos hc]
    obtain ⟨M, D, hM⟩ := refRange_ok0 hc
    rw [hM] at HO
    obtain ⟨⟨l1, l2⟩, ⟨g1, g2⟩, hle⟩ := ckR_ok hc
    by_cases h0 : 0 ≤ lo
    · rw [if_pos h0]
      have HP := fun w => RefRange_any (rti (lo * 1048576)) (rtu (hi * 1048576)) w
      rw [refRange_pos h0 hle g2] at HP
      exact refRR_pos rfl h0 l2 (by omega) g2 (Lib.hid fun w => base_Root (lo * 1048576) (by omega) (by omega) w) (Lib.hid fun w => refRootUp_any (hi * 1048576) (by omega) (by omega) w) (Lib.hid HP) (Lib.hid HO) w
    · rw [if_neg h0]
      by_cases h1 : hi ≤ 0
      · rw [if_pos h1]
        have p0 : 0 ≤ -hi := by omega
        have p1 : -hi ≤ -lo := by omega
        have p2 : -lo ≤ 67108864 := by omega
        have HP := fun w => RefRange_any (rti (-hi * 1048576)) (rtu (-lo * 1048576)) w
        rw [refRange_pos p0 p1 p2] at HP
        obtain ⟨b1, b2, b3, b4, b5, b6⟩ := rr_bd p0 p1 p2
        have HT := fun w => refTurned_any (q := 1) (rrD (-hi) (-lo)) (ckB_ok b5).1 (ckB_ok b5).2.1 ⟨by decide, by decide⟩ w
        have e1 : turnX (1 % 4) (rrM (-hi) (-lo)) 0 = 0 := by unfold turnX; simp
        have e2 : turnY (1 % 4) (rrM (-hi) (-lo)) 0 = rrM (-hi) (-lo) := by unfold turnY; simp
        rw [e1, e2] at HT
        exact refRR_neg rfl (by omega) h1 l1 g1 (Lib.hid fun w => base_Root (-hi * 1048576) (by omega) (by omega) w) (Lib.hid fun w => refRootUp_any (-lo * 1048576) (by omega) (by omega) w) (Lib.hid HP) (Lib.hid HT) (Lib.hid HO) w
      · rw [if_neg h1]; exact refRR_mid rfl (by omega) (by omega) (Lib.hid HO) w
  · rw [if_neg hc]
    unfold refRangeV at HO
    rw [if_neg hc] at HO
    exact refRR_bad hc (Lib.hid HO) w

theorem pair_rr (lo hi : Int) : Pair (rrV lo hi) (rrRefV lo hi) := by
  unfold rrV rrRefV
  by_cases hc : ckR lo hi 67108864 = 0
  · rw [if_pos hc, if_pos hc]
    obtain ⟨⟨l1, l2⟩, ⟨g1, g2⟩, hle⟩ := ckR_ok hc
    by_cases h0 : 0 ≤ lo
    · rw [if_pos h0, if_pos h0, rr_pos h0 hle g2]; exact ⟨_, _, _, _, rfl, rfl⟩
    · rw [if_neg h0, if_neg h0]
      split
      · exact ⟨_, _, _, _, rfl, rfl⟩
      · exact ⟨0, 0, 0, 14, by rw [fi_nought], rfl⟩
  · rw [if_neg hc, if_neg hc]; exact ⟨0, 0, 0, _, by rw [fi_nought], rfl⟩

end Go.Proofs.Ythodhenhmjgodaa
