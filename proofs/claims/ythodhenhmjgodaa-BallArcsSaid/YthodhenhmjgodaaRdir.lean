/- The reference's directions. -/
import Derived.Test.YthodhenhmjgodaaDirc
import Derived.Test.YthodhenhmjgodaaRtur
namespace Go.Proofs.Ythodhenhmjgodaa
open Go.RowKit Go.Lib
attribute [local go_sem] run_store_float run_store_complex
set_option linter.unusedVariables false

theorem root_h : rti 2251799813685248 = 47453132 := (rti_uniq (by decide) (by decide) (by decide) (by decide)).symm

/-- What a round of the reference keeps. -/
structure Hq (k : Nat) (lo hi : Int) (p q : Int × Int) (m : Int) (D : Int × Int) : Prop where
  wide : hi = lo + 2 ^ k
  left : Ei p
  right : Ei q
  top : m = hi → q = D
  dir : m < hi → hv k lo p q m = D

set_option maxRecDepth 100000 in
set_option maxHeartbeats 2000000 in
theorem rdirW1 {m M : Int} {x y : Int} (h0 : 2097152 ≤ M) (h1 : M < 4194304) (sx : Sm 67108864 x) (sy : Sm 67108864 y)
    (HH : Hid (∀ w, Calls Try.prog 127 #[.int .i64 (M - 2097152)] w (Mem (.agg #[.int .i64 x, .int .i64 y]) w)))
    (HM : Hid (∀ w, Calls Try.prog 96 #[.int .i64 m, .int .i64 4194304] w fun e w' => e = .returned (.int .i64 M) ∧ w = w')) (w : World) :
    Calls Try.prog 127 #[.int .i64 m] w (Mem (.agg #[.int .i64 (-x), .int .i64 (-y)]) w) := by
  have g1 : decide (2097152 ≤ M) = true := by simp; omega
  obtain ⟨x1, x2⟩ := sx
  obtain ⟨y1, y2⟩ := sy
  go_enter Try.func127, Try.ntmps127
  go_wp2_with fail
  have K := (Hold.start w).new #[.int .i64 0, .int .i64 0] 58 (n := w.heap.size) (by simp)
  refine (HM.out _).mono ?_
  rintro e_0 w_0 ⟨rfl, rfl⟩
  obtain ⟨_, sz1, h0, _⟩ := id K
  have q0 := h0.cell; have f0 := h0.frozen; have z1_0 := h0.lt
  clear h0
  go_wp2_with fail
  refine (HH.out _).mono ?_
  rintro e_1 w1 ⟨rfl, hb⟩
  have K' := Hold.mem (K) hb
  clear hb K
  have K := K'
  clear K'
  clear q0 f0
  obtain ⟨_, sz2, h0, _⟩ := id K
  have q0 := h0.cell; have f0 := h0.frozen; have z2_0 := h0.lt
  clear h0
  go_wp2_with fail
  refine bodyPost_ret (v := .agg #[.int .i64 (-x), .int .i64 (-y)]) (by simp [results, Try.results127, go_sem, *]) rfl ⟨rfl, ?_⟩
  repeat (first | exact K.below | refine Below.setCell ?_ (by simp <;> omega) _ | refine Below.alloc ?_ (by first | exact K.size | (simp <;> omega)) _)

set_option maxRecDepth 100000 in
set_option maxHeartbeats 2000000 in
theorem rdirW2 {m M : Int} {x y : Int} (h0 : 1048576 ≤ M) (h1 : M < 2097152) (sx : Sm 67108864 x) (sy : Sm 67108864 y)
    (HH : Hid (∀ w, Calls Try.prog 127 #[.int .i64 (M - 1048576)] w (Mem (.agg #[.int .i64 x, .int .i64 y]) w)))
    (HM : Hid (∀ w, Calls Try.prog 96 #[.int .i64 m, .int .i64 4194304] w fun e w' => e = .returned (.int .i64 M) ∧ w = w')) (w : World) :
    Calls Try.prog 127 #[.int .i64 m] w (Mem (.agg #[.int .i64 (-y), .int .i64 (x)]) w) := by
  have g1 : decide (2097152 ≤ M) = false := by simp; omega
  have g2 : decide (1048576 ≤ M) = true := by simp; omega
  obtain ⟨x1, x2⟩ := sx
  obtain ⟨y1, y2⟩ := sy
  go_enter Try.func127, Try.ntmps127
  go_wp2_with fail
  have K := (Hold.start w).new #[.int .i64 0, .int .i64 0] 58 (n := w.heap.size) (by simp)
  refine (HM.out _).mono ?_
  rintro e_0 w_0 ⟨rfl, rfl⟩
  obtain ⟨_, sz1, h0, _⟩ := id K
  have q0 := h0.cell; have f0 := h0.frozen; have z1_0 := h0.lt
  clear h0
  go_wp2_with fail
  refine (HH.out _).mono ?_
  rintro e_1 w1 ⟨rfl, hb⟩
  have K' := Hold.mem (K) hb
  clear hb K
  have K := K'
  clear K'
  clear q0 f0
  obtain ⟨_, sz2, h0, _⟩ := id K
  have q0 := h0.cell; have f0 := h0.frozen; have z2_0 := h0.lt
  clear h0
  go_wp2_with fail
  refine bodyPost_ret (v := .agg #[.int .i64 (-y), .int .i64 (x)]) (by simp [results, Try.results127, go_sem, *]) rfl ⟨rfl, ?_⟩
  repeat (first | exact K.below | refine Below.setCell ?_ (by simp <;> omega) _ | refine Below.alloc ?_ (by first | exact K.size | (simp <;> omega)) _)

set_option maxRecDepth 100000 in
set_option maxHeartbeats 2000000 in
theorem rdirW4 {m M : Int} {x y : Int} (h0 : 524289 ≤ M) (h1 : M < 1048576) (sx : Sm 67108864 x) (sy : Sm 67108864 y)
    (HH : Hid (∀ w, Calls Try.prog 127 #[.int .i64 (1048576 - M)] w (Mem (.agg #[.int .i64 x, .int .i64 y]) w)))
    (HM : Hid (∀ w, Calls Try.prog 96 #[.int .i64 m, .int .i64 4194304] w fun e w' => e = .returned (.int .i64 M) ∧ w = w')) (w : World) :
    Calls Try.prog 127 #[.int .i64 m] w (Mem (.agg #[.int .i64 (y), .int .i64 (x)]) w) := by
  have g1 : decide (2097152 ≤ M) = false := by simp; omega
  have g2 : decide (1048576 ≤ M) = false := by simp; omega
  have g3 : decide (524288 < M) = true := by simp; omega
  obtain ⟨x1, x2⟩ := sx
  obtain ⟨y1, y2⟩ := sy
  go_enter Try.func127, Try.ntmps127
  go_wp2_with fail
  have K := (Hold.start w).new #[.int .i64 0, .int .i64 0] 58 (n := w.heap.size) (by simp)
  refine (HM.out _).mono ?_
  rintro e_0 w_0 ⟨rfl, rfl⟩
  obtain ⟨_, sz1, h0, _⟩ := id K
  have q0 := h0.cell; have f0 := h0.frozen; have z1_0 := h0.lt
  clear h0
  go_wp2_with fail
  refine (HH.out _).mono ?_
  rintro e_1 w1 ⟨rfl, hb⟩
  have K' := Hold.mem (K) hb
  clear hb K
  have K := K'
  clear K'
  clear q0 f0
  obtain ⟨_, sz2, h0, _⟩ := id K
  have q0 := h0.cell; have f0 := h0.frozen; have z2_0 := h0.lt
  clear h0
  go_wp2_with fail
  refine bodyPost_ret (v := .agg #[.int .i64 (y), .int .i64 (x)]) (by simp [results, Try.results127, go_sem, *]) rfl ⟨rfl, ?_⟩
  repeat (first | exact K.below | refine Below.setCell ?_ (by simp <;> omega) _ | refine Below.alloc ?_ (by first | exact K.size | (simp <;> omega)) _)

set_option maxRecDepth 100000 in
set_option maxHeartbeats 2000000 in
theorem rdirW0 {m M : Int} (h0 : M = 0)
    (HM : Hid (∀ w, Calls Try.prog 96 #[.int .i64 m, .int .i64 4194304] w fun e w' => e = .returned (.int .i64 M) ∧ w = w')) (w : World) :
    Calls Try.prog 127 #[.int .i64 m] w (Mem (.agg #[.int .i64 (67108864), .int .i64 (0)]) w) := by
  have g1 : decide (2097152 ≤ M) = false := by simp; omega
  have g2 : decide (1048576 ≤ M) = false := by simp; omega
  have g3 : decide (524288 < M) = false := by simp; omega
  have HR := fun w => base_Root 2251799813685248 (by decide) (by decide) w
  rw [root_h] at HR
  replace HR := Lib.hid HR
  have g4 : (M == 0) = true := by simpa using h0
  go_enter Try.func127, Try.ntmps127
  go_wp2_with fail
  have K := (Hold.start w).new #[.int .i64 0, .int .i64 0] 58 (n := w.heap.size) (by simp)
  refine (HM.out _).mono ?_
  rintro e_0 w_0 ⟨rfl, rfl⟩
  obtain ⟨_, sz1, h0, _⟩ := id K
  have q0 := h0.cell; have f0 := h0.frozen; have z1_0 := h0.lt
  clear h0
  go_wp2_with fail
  refine (quiet_mem (HR.out _)).mono ?_
  rintro e_1 w1 ⟨rfl, hb⟩
  have K' := Hold.mem (K) hb
  clear hb K
  have K := K'
  clear K'
  clear q0 f0
  obtain ⟨_, sz2, h0, _⟩ := id K
  have q0 := h0.cell; have f0 := h0.frozen; have z2_0 := h0.lt
  clear h0
  go_wp2_with fail
  refine bodyPost_ret (v := .agg #[.int .i64 67108864, .int .i64 0]) (by simp [results, Try.results127, go_sem, *]) rfl ⟨rfl, ?_⟩
  repeat (first | exact K.below | refine Below.setCell ?_ (by simp <;> omega) _ | refine Below.alloc ?_ (by first | exact K.size | (simp <;> omega)) _)

set_option maxRecDepth 100000 in
set_option maxHeartbeats 2000000 in
theorem rdirW8 {m M : Int} {D : Int × Int} (h0 : 0 < M) (h1 : M ≤ 524288) (HV : Hid (Hq 19 0 524288 (67108864, 0) (47453132, 47453132) M D))
    (HM : Hid (∀ w, Calls Try.prog 96 #[.int .i64 m, .int .i64 4194304] w fun e w' => e = .returned (.int .i64 M) ∧ w = w')) (w : World) :
    Calls Try.prog 127 #[.int .i64 m] w (Mem (.agg #[.int .i64 (D.1), .int .i64 (D.2)]) w) := by
  have g1 : decide (2097152 ≤ M) = false := by simp; omega
  have g2 : decide (1048576 ≤ M) = false := by simp; omega
  have g3 : decide (524288 < M) = false := by simp; omega
  have HR := fun w => base_Root 2251799813685248 (by decide) (by decide) w
  rw [root_h] at HR
  replace HR := Lib.hid HR
  have g4 : (M == 0) = false := by simp; omega
  go_enter Try.func127, Try.ntmps127
  go_wp2_with fail
  have K := (Hold.start w).new #[.int .i64 0, .int .i64 0] 58 (n := w.heap.size) (by simp)
  refine (HM.out _).mono ?_
  rintro e_0 w_0 ⟨rfl, rfl⟩
  obtain ⟨_, sz1, h0, _⟩ := id K
  have q0 := h0.cell; have f0 := h0.frozen; have z1_0 := h0.lt
  clear h0
  go_wp2_with fail
  refine (quiet_mem (HR.out _)).mono ?_
  rintro e_1 w1 ⟨rfl, hb⟩
  have K' := Hold.mem (K) hb
  clear hb K
  have K := K'
  clear K'
  clear q0 f0
  obtain ⟨_, sz2, h0, _⟩ := id K
  have q0 := h0.cell; have f0 := h0.frozen; have z2_0 := h0.lt
  clear h0
  go_wp2_with fail
  clear q0 f0
  have K' := ((K).new #[.int .i64 67108864, .int .i64 0] 58 (n := w1.heap.size) (by first | rfl | (simp <;> omega))).new #[.int .i64 47453132, .int .i64 47453132] 58 (n := w1.heap.size + 1) (by first | rfl | (simp <;> omega))
  clear K
  have K := K'
  clear K'
  obtain ⟨_, sz3, h0, h1, h2, _⟩ := id K
  have z3_0 := h0.lt; have z3_1 := h1.lt; have z3_2 := h2.lt
  clear h0 h1 h2
  go_loopw [7, 8] (fun lov hiv wr => ∃ (k : Nat) (lo hi : Int) (p q : Int × Int), lov = .int .i64 lo ∧ hiv = .int .i64 hi ∧ 0 ≤ lo ∧ lo < M ∧ M ≤ hi ∧ hi ≤ 524288 ∧ Hid (Hq k lo hi p q M D) ∧ Hold w.heap.size w [(w1.heap.size + 1, #[.int .i64 q.1, .int .i64 q.2]), (w1.heap.size, #[.int .i64 p.1, .int .i64 p.2]), (w.heap.size, #[.int .i64 0, .int .i64 0])] wr) (fun lov hiv _ => (RowKit.intOf hiv - RowKit.intOf lov).toNat)
  case atStart => exact ⟨19, 0, 524288, (67108864, 0), (47453132, 47453132), rfl, rfl, by decide, h0, h1, by decide, HV, K⟩
  case round =>
    obtain ⟨k, lo, hi, p, q, rfl, rfl, l0, l1, l2, l3, hq, K'⟩ := hrel
    clear HV HR HM K
    have K := K'
    clear K'
    by_cases e : M = hi
    · skip
      obtain ⟨H, hH⟩ : ∃ H, H = hi := ⟨_, rfl⟩
      have hE : (M != hi) = false := by simpa using e
      have HP := Lib.hid (hq.out.top e)
      clear hH H
      obtain ⟨_, sz31, h0, h1, h2, _⟩ := id K
      have q0 := h0.cell; have f0 := h0.frozen; have z31_0 := h0.lt
      have q1 := h1.cell; have f1 := h1.frozen; have z31_1 := h1.lt
      have q2 := h2.cell; have f2 := h2.frozen; have z31_2 := h2.lt
      clear h0 h1 h2
      go_wp2_with fail
      have hD := HP.out
      have d1 : q.1 = D.1 := by rw [hD]
      have d2 : q.2 = D.2 := by rw [hD]
      clear hD
      refine bodyPost_ret (v := .agg #[.int .i64 D.1, .int .i64 D.2]) (by simp [results, Try.results127, go_sem, *]) rfl ⟨rfl, ?_⟩
      repeat (first | exact K.below | refine Below.setCell ?_ (by simp <;> omega) _ | refine Below.alloc ?_ (by first | exact K.size | (simp <;> omega)) _)
    · skip
      have hE : (M != hi) = true := by simpa using e
      have hE' : (M == hi) = false := by simpa using e
      have l2' : M < hi := by omega
      obtain ⟨j, rfl⟩ : ∃ j, k = j + 1 := by
        cases k with
        | zero => have := hq.out.wide; exfalso; rw [show (2 : Int) ^ 0 = 1 from rfl] at this; omega
        | succ j => exact ⟨j, rfl⟩
      obtain ⟨P, hP⟩ : ∃ P : Int, P = 2 ^ j := ⟨_, rfl⟩
      have hP1 : 1 ≤ P := by rw [hP]; exact_mod_cast Nat.one_le_two_pow
      have hw := hq.out.wide
      rw [Int.pow_succ, ← hP] at hw
      have e2 : (lo + hi) / 2 = lo + P := by omega
      have e3 : lo + P < hi := by omega
      obtain ⟨r1, r2, r3⟩ := bis_bd hq.out.left hq.out.right
      obtain ⟨p1, p2, p3, p4⟩ := id hq.out.left
      obtain ⟨q1, q2, q3, q4⟩ := id hq.out.right
      have hlm : ¬ lo = M := by omega
      have hdir := hq.out.dir l2'
      have HW := Lib.hid hw
      have HPP := Lib.hid hP
      have HL := Lib.hid hq.out.left
      have HRr := Lib.hid hq.out.right
      have HB := Lib.hid r3
      have HX : Hid ((p.1 + q.1) * 67108864 / rti (sq2 (p.1 + q.1) (p.2 + q.2)) = (bis p q).1) := rfl
      have HY : Hid ((p.2 + q.2) * 67108864 / rti (sq2 (p.1 + q.1) (p.2 + q.2)) = (bis p q).2) := rfl
      have sx : 0 ≤ (p.1 + q.1) * (p.1 + q.1) ∧ (p.1 + q.1) * (p.1 + q.1) ≤ 134217728 * 134217728 := ⟨Int.mul_nonneg (by omega) (by omega), Int.mul_le_mul (by omega) (by omega) (by omega) (by decide)⟩
      have sy : 0 ≤ (p.2 + q.2) * (p.2 + q.2) ∧ (p.2 + q.2) * (p.2 + q.2) ≤ 134217728 * 134217728 := ⟨Int.mul_nonneg (by omega) (by omega), Int.mul_le_mul (by omega) (by omega) (by omega) (by decide)⟩
      have hsq : sq2 (p.1 + q.1) (p.2 + q.2) = (p.1 + q.1) * (p.1 + q.1) + (p.2 + q.2) * (p.2 + q.2) := rfl
      have HRt := fun w => base_Root (sq2 (p.1 + q.1) (p.2 + q.2)) (by omega) (by omega) w
      obtain ⟨R, hR⟩ : ∃ R, rti (sq2 (p.1 + q.1) (p.2 + q.2)) = R := ⟨_, rfl⟩
      rw [hR] at HRt HX HY r1 r2
      rw [hsq] at HRt
      replace HRt := Lib.hid HRt
      obtain ⟨bx, hbx⟩ : ∃ b, b = (bis p q).1 := ⟨_, rfl⟩
      obtain ⟨by', hby⟩ : ∃ b, b = (bis p q).2 := ⟨_, rfl⟩
      rw [← hbx] at HX
      rw [← hby] at HY
      have ex := HX.out; have ey := HY.out
      have HBX := Lib.hid hbx; have HBY := Lib.hid hby
      clear hbx hby HX HY
      have v1 : IntKind.i64.wrap ((p.1 + q.1) * (p.1 + q.1)) = (p.1 + q.1) * (p.1 + q.1) := IntWalk.i64_in _ (by omega)
      have v2 : IntKind.i64.wrap ((p.2 + q.2) * (p.2 + q.2)) = (p.2 + q.2) * (p.2 + q.2) := IntWalk.i64_in _ (by omega)
      have v3 : IntKind.i64.wrap ((p.1 + q.1) * (p.1 + q.1) + (p.2 + q.2) * (p.2 + q.2)) = (p.1 + q.1) * (p.1 + q.1) + (p.2 + q.2) * (p.2 + q.2) := IntWalk.i64_in _ (by omega)
      have v4 : IntKind.i64.wrap ((p.1 + q.1) * 67108864) = (p.1 + q.1) * 67108864 := IntWalk.i64_in _ (by omega)
      have v5 : IntKind.i64.wrap ((p.2 + q.2) * 67108864) = (p.2 + q.2) * 67108864 := IntWalk.i64_in _ (by omega)
      have v6 : IntKind.i64.wrap (p.1 + q.1) = p.1 + q.1 := IntWalk.i64_in _ (by omega)
      have v7 : IntKind.i64.wrap (p.2 + q.2) = p.2 + q.2 := IntWalk.i64_in _ (by omega)
      have HUP := Lib.hid (show lo + P < M → Hq j (lo + P) hi (bis p q) q M D from fun h => ⟨by rw [← hP]; omega, r3, hq.out.right, fun h' => absurd h' e, fun _ => by rw [hP] at h ⊢; rw [hv_up hlm (by omega)] at hdir; exact hdir⟩)
      have HDN := Lib.hid (show M < lo + P → Hq j lo (lo + P) p (bis p q) M D from fun h => ⟨by rw [hP], hq.out.left, r3, fun h' => by omega, fun _ => by rw [hP] at h; rw [hv_down hlm (by omega)] at hdir; exact hdir⟩)
      have HEQ := Lib.hid (show lo + P = M → D = bis p q from fun h => by rw [← hdir, hv_up hlm (by rw [← hP]; omega), ← hP, h, hv_same])
      clear hw hP e hsq hR hdir hlm hq r3 sx sy
      generalize hp1 : p.1 = pa at *
      generalize hp2 : p.2 = pb at *
      generalize hq1 : q.1 = qa at *
      generalize hq2 : q.2 = qb at *
      have G := Lib.hid (And.intro hp1 (And.intro hp2 (And.intro hq1 hq2)))
      clear hp1 hp2 hq1 hq2
      obtain ⟨_, sz41, h0, h1, h2, _⟩ := id K
      have q0 := h0.cell; have f0 := h0.frozen; have z41_0 := h0.lt
      have q1 := h1.cell; have f1 := h1.frozen; have z41_1 := h1.lt
      have q2 := h2.cell; have f2 := h2.frozen; have z41_2 := h2.lt
      clear h0 h1 h2
      go_wp2_with fail
      clear q0 f0 q1 f1 q2 f2
      obtain ⟨_, sz42, h0, h1, h2, _⟩ := id K
      have z42_0 := h0.lt; have z42_1 := h1.lt; have z42_2 := h2.lt
      clear h0 h1 h2
      have hne : Hid (∃ w', Hold w.heap.size w [(w1.heap.size + 1, #[.int .i64 qa, .int .i64 qb]), (w1.heap.size, #[.int .i64 pa, .int .i64 pb]), (w.heap.size, #[.int .i64 0, .int .i64 0])] w') := ⟨_, K.drew⟩
      refine wp_region_tail (Hold w.heap.size w [(w1.heap.size + 1, #[.int .i64 qa, .int .i64 qb]), (w1.heap.size, #[.int .i64 pa, .int .i64 pb]), (w.heap.size, #[.int .i64 0, .int .i64 0])]) 12 12 (by kernel_rfl) (by kernel_rfl) (fun _ _ d _ _ h => by cases d <;> exact h) (Hold.lasting _ _ _) K.drew ?_
      simp only [List.take_succ_cons, List.take_zero, List.drop_succ_cons, List.drop_zero]
      clear K
      repeat (first
        | (refine calm_skip (by rfl) ?_; simp only [Act.put, List.setIfInBounds_toArray, List.set_cons_zero, List.set_cons_succ])
        | (refine calm_step hne.out (by rfl) rfl (by simp) ?_; apply Exists.intro; refine ⟨?_, ?_⟩
           · (intro r _ K hK; go_big_quiet_op; first
              | exact hK
              | (apply Exists.intro; refine ⟨fun _ hw => ?_, ?_⟩; (first
                 | with_reducible exact rfl
                 | (obtain ⟨_, _, h0, h1, h2, _⟩ := hw.s; have q0 := h0.cell; have q1 := h1.cell; have q2 := h2.cell; clear h0 h1 h2; simp [q0, q1, q2, go_sem]; exact rfl)); exact hK))))
      refine wpCalm_nil ?_
      intro w41 K
      clear hne
      obtain ⟨_, sz43, h0, h1, h2, _⟩ := id K
      have q0 := h0.cell; have f0 := h0.frozen; have z43_0 := h0.lt
      have q1 := h1.cell; have f1 := h1.frozen; have z43_1 := h1.lt
      have q2 := h2.cell; have f2 := h2.frozen; have z43_2 := h2.lt
      clear h0 h1 h2
      go_wp2_with fail
      refine (quiet_mem (HRt.out _)).mono ?_
      rintro e_42 w42 ⟨rfl, hb⟩
      have K' := Hold.mem (K) hb
      clear hb K
      have K := K'
      clear K'
      clear q0 f0 q1 f1 q2 f2
      obtain ⟨_, sz44, h0, h1, h2, _⟩ := id K
      have q0 := h0.cell; have f0 := h0.frozen; have z44_0 := h0.lt
      have q1 := h1.cell; have f1 := h1.frozen; have z44_1 := h1.lt
      have q2 := h2.cell; have f2 := h2.frozen; have z44_2 := h2.lt
      clear h0 h1 h2
      go_wp2_with fail
      clear q0 f0 q1 f1 q2 f2
      obtain ⟨_, sz45, h0, h1, h2, _⟩ := id K
      have z45_0 := h0.lt; have z45_1 := h1.lt; have z45_2 := h2.lt
      clear h0 h1 h2
      have hne : Hid (∃ w', Hold w.heap.size w [(w1.heap.size + 1, #[.int .i64 qa, .int .i64 qb]), (w1.heap.size, #[.int .i64 pa, .int .i64 pb]), (w.heap.size, #[.int .i64 0, .int .i64 0])] w') := ⟨_, K.drew⟩
      refine wp_region_float (Hold w.heap.size w [(w1.heap.size + 1, #[.int .i64 qa, .int .i64 qb]), (w1.heap.size, #[.int .i64 pa, .int .i64 pb]), (w.heap.size, #[.int .i64 0, .int .i64 0])]) 9 9 15 (by kernel_rfl) (by kernel_rfl) (fun _ _ d _ _ h => by cases d <;> exact h) (Hold.lasting _ _ _) K.drew (c := #[.int .i64 0, .int .i64 0]) rfl ⟨rfl, rfl, fun _ _ => ⟨_, by go_simp; exact rfl⟩⟩ ?_
      simp only [List.take_succ_cons, List.take_zero, List.drop_succ_cons, List.drop_zero]
      clear K
      repeat (first
        | (refine calm_skip (by rfl) ?_; simp only [Act.put, List.setIfInBounds_toArray, List.set_cons_zero, List.set_cons_succ])
        | (refine calm_step hne.out (by rfl) rfl (by simp) ?_; apply Exists.intro; refine ⟨?_, ?_⟩
           · (intro r _ K hK; go_big_quiet_op; first
              | exact hK
              | (apply Exists.intro; refine ⟨fun _ hw => ?_, ?_⟩; (first
                 | with_reducible exact rfl
                 | (obtain ⟨_, _, h0, h1, h2, _⟩ := hw.s; have q0 := h0.cell; have q1 := h1.cell; have q2 := h2.cell; clear h0 h1 h2; simp [q0, q1, q2, go_sem]; exact rfl)); exact hK))))
      refine wpCalm_nil ?_
      intro bd w43 hge_bd K ha
      clear hne
      have K' := K.cons ha
      clear ha K
      have K := K'
      clear K'
      simp only [Act.put, List.setIfInBounds_toArray, List.set_cons_zero, List.set_cons_succ]
      by_cases hm : lo + P = M
      · have hm' : (lo + P == M) = true := by simpa using hm
        obtain ⟨_, sz46, h0, h1, h2, h3, _⟩ := id K
        have q0 := h0.cell; have f0 := h0.frozen; have z46_0 := h0.lt
        have q1 := h1.cell; have f1 := h1.frozen; have z46_1 := h1.lt
        have q2 := h2.cell; have f2 := h2.frozen; have z46_2 := h2.lt
        have q3 := h3.cell; have f3 := h3.frozen; have z46_3 := h3.lt
        clear h0 h1 h2 h3
        go_wp2_with fail
        have K' := (K).set2 (v0 := .int .i64 bx) (v1 := .int .i64 by') (by omega) (by simp <;> omega)
        clear K
        have K := K'
        clear K'
        have h1 := HBX.out; have h2 := HBY.out; have h3 := HEQ.out hm
        have h4 : D.1 = bx := by rw [h3, h1]
        have h5 : D.2 = by' := by rw [h3, h2]
        clear h1 h2 h3
        refine bodyPost_ret (v := .agg #[.int .i64 D.1, .int .i64 D.2]) (by simp [results, Try.results127, go_sem, *]) rfl ⟨rfl, ?_⟩
        repeat (first | exact K.below | refine Below.setCell ?_ (by simp <;> omega) _ | refine Below.alloc ?_ (by first | exact K.size | (simp <;> omega)) _)
      have hm' : (lo + P == M) = false := by simpa using hm
      by_cases hg : lo + P < M
      · have hg' : decide (lo + P < M) = true := by simpa using hg
        obtain ⟨_, sz46, h0, h1, h2, h3, _⟩ := id K
        have q0 := h0.cell; have f0 := h0.frozen; have z46_0 := h0.lt
        have q1 := h1.cell; have f1 := h1.frozen; have z46_1 := h1.lt
        have q2 := h2.cell; have f2 := h2.frozen; have z46_2 := h2.lt
        have q3 := h3.cell; have f3 := h3.frozen; have z46_3 := h3.lt
        clear h0 h1 h2 h3
        go_wp2_with fail
        clear q0 f0 q1 f1 q2 f2 q3 f3
        have K' := (K).set2 (v0 := .int .i64 bx) (v1 := .int .i64 by') (by omega) (by simp <;> omega)
        clear K
        have K := K'
        clear K'
        obtain ⟨_, sz47, h0, h1, h2, h3, _⟩ := id K
        have z47_0 := h0.lt; have z47_1 := h1.lt; have z47_2 := h2.lt; have z47_3 := h3.lt
        clear h0 h1 h2 h3
        have hne : Hid (∃ w', Hold w.heap.size w [(bd, #[.int .i64 bx, .int .i64 by']), (w1.heap.size + 1, #[.int .i64 qa, .int .i64 qb]), (w1.heap.size, #[.int .i64 pa, .int .i64 pb]), (w.heap.size, #[.int .i64 0, .int .i64 0])] w') := ⟨_, K.drew⟩
        refine wp_region_sink (Hold w.heap.size w [(bd, #[.int .i64 bx, .int .i64 by']), (w1.heap.size + 1, #[.int .i64 qa, .int .i64 qb]), (w1.heap.size, #[.int .i64 pa, .int .i64 pb]), (w.heap.size, #[.int .i64 0, .int .i64 0])]) 3 (by kernel_rfl) (by kernel_rfl) (Hold.lasting _ _ _) K.drew ?_
        simp only [List.take_succ_cons, List.take_zero, List.drop_succ_cons, List.drop_zero]
        clear K
        repeat (first
          | (refine calm_skip (by rfl) ?_; simp only [Act.put, List.setIfInBounds_toArray, List.set_cons_zero, List.set_cons_succ])
          | (refine calm_step hne.out (by rfl) rfl (by simp) ?_; apply Exists.intro; refine ⟨?_, ?_⟩
             · (intro r _ K hK; go_big_quiet_op; first
                | exact hK
                | (apply Exists.intro; refine ⟨fun _ hw => ?_, ?_⟩; (first
                   | with_reducible exact rfl
                   | (obtain ⟨_, _, h0, h1, h2, h3, _⟩ := hw.s; have q0 := h0.cell; have q1 := h1.cell; have q2 := h2.cell; have q3 := h3.cell; clear h0 h1 h2 h3; simp [q0, q1, q2, q3, go_sem]; exact rfl)); exact hK))))
        refine wpCalm_nil ?_
        intro w44 K
        clear hne
        obtain ⟨_, sz48, h0, h1, h2, h3, _⟩ := id K
        have q0 := h0.cell; have f0 := h0.frozen; have z48_0 := h0.lt
        have q1 := h1.cell; have f1 := h1.frozen; have z48_1 := h1.lt
        have q2 := h2.cell; have f2 := h2.frozen; have z48_2 := h2.lt
        have q3 := h3.cell; have f3 := h3.frozen; have z48_3 := h3.lt
        clear h0 h1 h2 h3
        go_wp2_with fail
        have K' := ((K).sub (l' := [(w1.heap.size, #[.int .i64 pa, .int .i64 pb]), (bd, #[.int .i64 bx, .int .i64 by']), (w1.heap.size + 1, #[.int .i64 qa, .int .i64 qb]), (w.heap.size, #[.int .i64 0, .int .i64 0])]) (by simp)).set2 (v0 := .int .i64 bx) (v1 := .int .i64 by') (by omega) (by simp <;> omega)
        clear K
        have K := K'
        clear K'
        clear q0 f0 q1 f1 q2 f2 q3 f3
        go_roundw
        case rel =>
          obtain ⟨rfl, rfl, rfl, rfl⟩ := G.out
          have h1 := HBX.out; have h2 := HBY.out
          subst h1 h2
          exact ⟨j, lo + P, hi, bis p q, q, rfl, rfl, by omega, hg, by omega, l3, Lib.hid (HUP.out hg), K.sub (by simp)⟩
        case measure => simp [RowKit.intOf]; omega
      · have hg' : decide (lo + P < M) = false := by simpa using hg
        obtain ⟨_, sz46, h0, h1, h2, h3, _⟩ := id K
        have q0 := h0.cell; have f0 := h0.frozen; have z46_0 := h0.lt
        have q1 := h1.cell; have f1 := h1.frozen; have z46_1 := h1.lt
        have q2 := h2.cell; have f2 := h2.frozen; have z46_2 := h2.lt
        have q3 := h3.cell; have f3 := h3.frozen; have z46_3 := h3.lt
        clear h0 h1 h2 h3
        go_wp2_with fail
        clear q0 f0 q1 f1 q2 f2 q3 f3
        have K' := (K).set2 (v0 := .int .i64 bx) (v1 := .int .i64 by') (by omega) (by simp <;> omega)
        clear K
        have K := K'
        clear K'
        obtain ⟨_, sz47, h0, h1, h2, h3, _⟩ := id K
        have z47_0 := h0.lt; have z47_1 := h1.lt; have z47_2 := h2.lt; have z47_3 := h3.lt
        clear h0 h1 h2 h3
        have hne : Hid (∃ w', Hold w.heap.size w [(bd, #[.int .i64 bx, .int .i64 by']), (w1.heap.size + 1, #[.int .i64 qa, .int .i64 qb]), (w1.heap.size, #[.int .i64 pa, .int .i64 pb]), (w.heap.size, #[.int .i64 0, .int .i64 0])] w') := ⟨_, K.drew⟩
        refine wp_region_sink (Hold w.heap.size w [(bd, #[.int .i64 bx, .int .i64 by']), (w1.heap.size + 1, #[.int .i64 qa, .int .i64 qb]), (w1.heap.size, #[.int .i64 pa, .int .i64 pb]), (w.heap.size, #[.int .i64 0, .int .i64 0])]) 3 (by kernel_rfl) (by kernel_rfl) (Hold.lasting _ _ _) K.drew ?_
        simp only [List.take_succ_cons, List.take_zero, List.drop_succ_cons, List.drop_zero]
        clear K
        repeat (first
          | (refine calm_skip (by rfl) ?_; simp only [Act.put, List.setIfInBounds_toArray, List.set_cons_zero, List.set_cons_succ])
          | (refine calm_step hne.out (by rfl) rfl (by simp) ?_; apply Exists.intro; refine ⟨?_, ?_⟩
             · (intro r _ K hK; go_big_quiet_op; first
                | exact hK
                | (apply Exists.intro; refine ⟨fun _ hw => ?_, ?_⟩; (first
                   | with_reducible exact rfl
                   | (obtain ⟨_, _, h0, h1, h2, h3, _⟩ := hw.s; have q0 := h0.cell; have q1 := h1.cell; have q2 := h2.cell; have q3 := h3.cell; clear h0 h1 h2 h3; simp [q0, q1, q2, q3, go_sem]; exact rfl)); exact hK))))
        refine wpCalm_nil ?_
        intro w44 K
        clear hne
        obtain ⟨_, sz48, h0, h1, h2, h3, _⟩ := id K
        have q0 := h0.cell; have f0 := h0.frozen; have z48_0 := h0.lt
        have q1 := h1.cell; have f1 := h1.frozen; have z48_1 := h1.lt
        have q2 := h2.cell; have f2 := h2.frozen; have z48_2 := h2.lt
        have q3 := h3.cell; have f3 := h3.frozen; have z48_3 := h3.lt
        clear h0 h1 h2 h3
        go_wp2_with fail
        have K' := ((K).sub (l' := [(w1.heap.size + 1, #[.int .i64 qa, .int .i64 qb]), (bd, #[.int .i64 bx, .int .i64 by']), (w1.heap.size, #[.int .i64 pa, .int .i64 pb]), (w.heap.size, #[.int .i64 0, .int .i64 0])]) (by simp)).set2 (v0 := .int .i64 bx) (v1 := .int .i64 by') (by omega) (by simp <;> omega)
        clear K
        have K := K'
        clear K'
        clear q0 f0 q1 f1 q2 f2 q3 f3
        go_roundw
        case rel =>
          obtain ⟨rfl, rfl, rfl, rfl⟩ := G.out
          have h1 := HBX.out; have h2 := HBY.out
          subst h1 h2
          exact ⟨j, lo, lo + P, p, bis p q, rfl, rfl, l0, l1, by omega, by omega, Lib.hid (HDN.out (by omega)), K.sub (by simp)⟩
        case measure => simp [RowKit.intOf]; omega

end Go.Proofs.Ythodhenhmjgodaa
