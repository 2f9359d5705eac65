/- Balls: quotients, and what is returned for any floats. -/
import Derived.Test.YtgdlddmbfockpaaFbb
namespace Go.Proofs.Ytgdlddmbfockpaa.Ev
set_option linter.unusedSimpArgs false
open Go Go.RowKit
set_option linter.unusedVariables false
set_option maxRecDepth 100000
open Go.Proofs.Ytgdlddmbfockpaa.Gm

theorem msq {X Z M : Int} (hM : 0 ≤ M) (h : -M ≤ X ∧ X ≤ M) : -(M * (Z * Z)) ≤ X * Z ∧ X * Z ≤ M * (Z * Z) := by

  have hz : Z.natAbs ≤ (Z * Z).natAbs := by

    rw [Int.natAbs_mul]

    rcases Nat.eq_zero_or_pos Z.natAbs with h | h

    · rw [h]; exact Nat.zero_le _

    · exact Nat.le_mul_of_pos_left _ h

  have hs := sqn Z

  have e : (X * Z).natAbs ≤ M.natAbs * (Z * Z).natAbs := by

    rw [Int.natAbs_mul]; exact Nat.mul_le_mul (by omega) hz

  have e2 : ((M.natAbs * (Z * Z).natAbs : Nat) : Int) = M * (Z * Z) := by rw [Int.natCast_mul]; congr 1 <;> omega

  omega

def qn1 (X Y Z W : Int) : Int := X * Z - Y * (0 - W)

def qn2 (X Y Z W : Int) : Int := X * (0 - W) + Y * Z

def quotQ (X Y r Z W s : Int) : Bq := if dn Z W - s ≤ 0 then be 9 else bk (rdiv (qn1 X Y Z W * 1048576) (Z * Z + W * W)) (rdiv (qn2 X Y Z W * 1048576) (Z * Z + W * W)) (mo (wholeB (qn1 X Y Z W * 1048576) (Z * Z + W * W)) (wholeB (qn2 X Y Z W * 1048576) (Z * Z + W * W)) (cdiv ((r * upw Z W + upw X Y * s) * 1048576) ((dn Z W - s) * dn Z W)))

theorem rdiv_rng {n d M : Int} (hd : 0 < d) (h0 : -(M * d) ≤ n) (h1 : n ≤ M * d) : -M ≤ rdiv n d ∧ rdiv n d ≤ M + 1 := by

  unfold rdiv

  have e3 : M * (2 * d) = 2 * (M * d) := by rw [← Int.mul_assoc, Int.mul_comm M 2, Int.mul_assoc]

  constructor

  · rw [Int.le_ediv_iff_mul_le (by omega), Int.neg_mul, e3]; omega

  · have : (2 * n + d) / (2 * d) < M + 1 := by

      rw [Int.ediv_lt_iff_lt_mul (by omega), Int.add_mul, e3]; omega

    omega

theorem nearestM_s {x d : Int} (h0 : -(134217728 * d) ≤ x) (h1 : x ≤ 134217728 * d) (h2 : -4611686018427387904 ≤ x) (h3 : x ≤ 4611686018427387904) (hd : 0 < d) (hd' : d ≤ 4611686018427387904) : Spec Try.prog whole_Nearest_s ⟨[x, 1048576, d], [], []⟩ [rdiv (x * 1048576) d] [wholeB (x * 1048576) d] [] :=

  nearest_s (DvIn_gen h2 h3 (by omega) (by omega) hd hd' (by omega))

theorem quot_facts {r s X Y Z W : Int} (hx : (-67108864) ≤ X ∧ X ≤ 67108864) (hy : (-67108864) ≤ Y ∧ Y ≤ 67108864) (hr : 0 ≤ r ∧ r ≤ 67108864) (hz : (-67108864) ≤ Z ∧ Z ≤ 67108864) (hw : (-67108864) ≤ W ∧ W ≤ 67108864) (hs : 0 ≤ s ∧ s ≤ 67108864) (hl : ¬ dn Z W - s ≤ 0) :

    0 < Z * Z + W * W ∧ (-(134217728 * (Z * Z + W * W)) ≤ qn1 X Y Z W ∧ qn1 X Y Z W ≤ 134217728 * (Z * Z + W * W)) ∧ (-(134217728 * (Z * Z + W * W)) ≤ qn2 X Y Z W ∧ qn2 X Y Z W ≤ 134217728 * (Z * Z + W * W)) ∧

    (0 < (dn Z W - s) * dn Z W ∧ (dn Z W - s) * dn Z W ≤ 9007199254740992) ∧ (0 ≤ r * upw Z W + upw X Y * s ∧ r * upw Z W + upw X Y * s ≤ 268435456 * ((dn Z W - s) * dn Z W)) ∧ r * upw Z W + upw X Y * s ≤ 36028797018963968 ∧ ((-9007199254740992) ≤ qn1 X Y Z W ∧ qn1 X Y Z W ≤ 9007199254740992) ∧ ((-9007199254740992) ≤ qn2 X Y Z W ∧ qn2 X Y Z W ≤ 9007199254740992) := by

  obtain ⟨z1, d1, u1⟩ := sz_bd hx hy

  obtain ⟨z2, d2, u2⟩ := sz_bd hz hw

  have k := rtu_all z2.1

  have hk : upw Z W ≤ dn Z W + 1 := k.2.2.2.1

  have a1 := msq (X := X) (Z := Z) (M := 67108864) (by omega) hx

  have a2 := msq (X := Y) (Z := W) (M := 67108864) (by omega) hy

  have a3 := msq (X := X) (Z := W) (M := 67108864) (by omega) hx

  have a4 := msq (X := Y) (Z := Z) (M := 67108864) (by omega) hy

  have s1 := sqn Z

  have s2 := sqn W

  have q0 : dn Z W * dn Z W ≤ Z * Z + W * W := (rti_all z2.1).2.1

  have e1 : qn1 X Y Z W = X * Z + Y * W := by unfold qn1; rw [Int.mul_sub]; omega

  have e2 : qn2 X Y Z W = Y * Z - X * W := by unfold qn2; rw [Int.mul_sub]; omega

  have b1 := mb hx hz

  have b2 := mb hy hw

  have b3 := mb hx hw

  have b4 := mb hy hz

  rw [e1, e2]

  generalize upw X Y = ux at *

  generalize upw Z W = uz at *

  generalize dn Z W = D at *

  have g1 : 1 * D ≤ (D - s) * D := Int.mul_le_mul_of_nonneg_right (by omega) (by omega)

  have g2 : (D - s) * D ≤ D * D := Int.mul_le_mul_of_nonneg_right (by omega) (by omega)

  have g3 : D * D ≤ 94906265 * 94906265 := Int.mul_le_mul (by omega) (by omega) (by omega) (by omega)

  have g4 : 1 * 1 ≤ D * D := Int.mul_le_mul (by omega) (by omega) (by omega) (by omega)

  have g5 : r * uz ≤ 67108864 * (2 * D) := Int.mul_le_mul (by omega) (by omega) (by omega) (by omega)

  have g6 : ux * s ≤ 94906266 * D := Int.mul_le_mul (by omega) (by omega) (by omega) (by omega)

  have g7 : 0 ≤ r * uz := Int.mul_nonneg (by omega) (by omega)

  have g8 : 0 ≤ ux * s := Int.mul_nonneg (by omega) (by omega)

  refine ⟨by omega, by omega, by omega, by omega, by omega, by omega, by omega, by omega⟩

theorem quot_good {a b c d : Nat} {r s X Y Z W : Int} (h : RB a b r X Y) (g : RB c d s Z W) : Spec Try.prog ball_Quotient_s ⟨[(a : Int), (b : Int), r, (c : Int), (d : Int), s], [], []⟩ [F (quotQ X Y r Z W s).x, F (quotQ X Y r Z W s).y, (quotQ X Y r Z W s).r, (quotQ X Y r Z W s).e] [] [] := by

  obtain ⟨pa, pb, hx, hy, hr⟩ := h

  obtain ⟨pc, pd, hz, hw, hs⟩ := g

  obtain ⟨z1, d1, u1⟩ := sz_bd hx hy

  obtain ⟨z2, d2, u2⟩ := sz_bd hz hw

  have v1 := rootUp_s (n := X * X + Y * Y) z1.1 (by omega)

  have v2 := rootUp_s (n := Z * Z + W * W) z2.1 (by omega)

  have v3 := rootDown_s (n := Z * Z + W * W) z2.1 (by omega)

  have u1' : 0 ≤ rtu (X * X + Y * Y) ∧ rtu (X * X + Y * Y) ≤ 100000000 := ⟨u1.1, Int.le_trans u1.2 (by decide)⟩

  have u2' : 0 ≤ rtu (Z * Z + W * W) ∧ rtu (Z * Z + W * W) ≤ 100000000 := ⟨u2.1, Int.le_trans u2.2 (by decide)⟩

  have d2' : 0 ≤ rti (Z * Z + W * W) ∧ rti (Z * Z + W * W) ≤ 100000000 := ⟨d2.1, Int.le_trans d2.2 (by decide)⟩

  have main : ∀ {R : Int → Int → Int → Int → Prop}, _ → _ := fun {R} H => qu (x0 := (a : Int)) (x1 := (b : Int)) (x3 := (c : Int)) (x4 := (d : Int)) hr hs (R := R) ⟨X, ⟨pa, by omega⟩, hx, Y, ⟨pb, by omega⟩, hy, Z, ⟨pc, by omega⟩, hz, W, ⟨pd, by omega⟩, hw, _, v3, d2', H⟩

  by_cases hl : dn Z W - s ≤ 0

  · refine BqF.out (main (R := BqF _) ⟨fun _ => be_ok (e := 9) (by unfold quotQ; rw [if_pos hl]), fun h9 => ?_⟩)

    simp only [decide_eq_false_iff_not] at h9

    exact absurd hl h9

  · obtain ⟨f1, f2, f3, f4, f5, f6, f7, f8⟩ := quot_facts hx hy hr hz hw hs hl

    have n1 := nearestM_s (x := qn1 X Y Z W) (d := Z * Z + W * W) f2.1 f2.2 (by omega) (by omega) f1 (by omega)

    have n2 := nearestM_s (x := qn2 X Y Z W) (d := Z * Z + W * W) f3.1 f3.2 (by omega) (by omega) f1 (by omega)

    have b1 := rdiv_rng (n := qn1 X Y Z W * 1048576) (M := 134217728 * 1048576) f1 (by omega) (by omega)

    have b2 := rdiv_rng (n := qn2 X Y Z W * 1048576) (M := 134217728 * 1048576) f1 (by omega) (by omega)

    have q1 := upper_s (x := r * upw Z W + upw X Y * s) (y := 1048576) (d := (dn Z W - s) * dn Z W) (DvIn_gen (by omega) (by omega) (by omega) (by omega) (by omega) (by omega) (by omega))

    have c1 : 0 ≤ cdiv ((r * upw Z W + upw X Y * s) * 1048576) ((dn Z W - s) * dn Z W) ∧ cdiv ((r * upw Z W + upw X Y * s) * 1048576) ((dn Z W - s) * dn Z W) ≤ 4611686018427387904 := by

      have e := cdiv_spec' ((r * upw Z W + upw X Y * s) * 1048576) f4.1

      generalize (dn Z W - s) * dn Z W = D at *

      generalize r * upw Z W + upw X Y * s = N at *

      constructor

      · rcases Int.lt_or_le (cdiv (N * 1048576) D) 0 with h | h

        · have : D * cdiv (N * 1048576) D ≤ D * (-1) := Int.mul_le_mul_of_nonneg_left (by omega) (by omega)

          omega

        · exact h

      · rcases Int.lt_or_le 4611686018427387904 (cdiv (N * 1048576) D) with h | h

        · have : D * 4611686018427387904 ≤ D * (cdiv (N * 1048576) D - 1) := Int.mul_le_mul_of_nonneg_left (by omega) (by omega)

          omega

        · exact h

    have hq : quotQ X Y r Z W s = bk _ _ _ := if_neg hl

    refine BqF.out (main (R := BqF _) ⟨fun h9 => absurd (of_decide_eq_true h9) hl, fun _ => ⟨_, _, n1, ⟨by omega, by omega⟩, _, _, n2, ⟨by omega, by omega⟩, ?_⟩⟩)

    clear n1 n2 main

    generalize quotQ X Y r Z W s = Q at *

    generalize wholeB (qn1 X Y Z W * 1048576) (Z * Z + W * W) = w1 at *

    generalize wholeB (qn2 X Y Z W * 1048576) (Z * Z + W * W) = w2 at *

    have k : ∀ x, mo w1 w2 x = if w1 = true ∧ w2 = true then x else x + 1 := fun _ => rfl

    rw [k] at hq

    cases w1 <;> cases w2

    all_goals (simp only [reduceCtorEq, and_self, and_true, true_and, and_false, false_and, if_true, if_false, false_implies, true_implies, Bool.false_eq_true, Bool.true_eq_false] at hq ⊢)

    all_goals exact ⟨_, v2, u2', _, v1, u1', _, q1, c1, bk_tree hq⟩

/-- Where one of two balls is wrong. -/

theorem two_tree {P : Program} {a b c d r s e1 e2 : Int} {R : Int → Int → Int → Int → Prop} (c1 : Spec P ball_CheckBall_s ⟨[a, b, r], [], []⟩ [e1] [] []) (c2 : Spec P ball_CheckBall_s ⟨[c, d, s], [], []⟩ [e2] [] []) (h : fe e1 e2 ≠ 0) (hR : R 0 0 0 (fe e1 e2)) :

    ∃ v6 : Int, Spec P ball_CheckBall_s ⟨[a, b, r], [], []⟩ [v6] [] [] ∧ ((((v6 : Int) == 0) = true → (∃ v7 : Int, Spec P ball_CheckBall_s ⟨[c, d, s], [], []⟩ [v7] [] [] ∧ ((((v7 : Int) == 0) = true → False) ∧ (((v7 : Int) == 0) = false → R 0 0 0 v7)))) ∧ (((v6 : Int) == 0) = false → R 0 0 0 v6)) := by

  simp only [beq_iff_eq, beq_eq_false_iff_ne, ne_eq]

  unfold fe at h hR

  refine ⟨_, c1, fun h1 => ?_, fun h1 => by rwa [if_neg h1] at hR⟩

  rw [if_pos h1] at h hR

  exact ⟨_, c2, h, fun _ => hR⟩

theorem one_tree {P : Program} {a b r e1 : Int} {R : Int → Int → Int → Int → Prop} (c1 : Spec P ball_CheckBall_s ⟨[a, b, r], [], []⟩ [e1] [] []) (h : e1 ≠ 0) (hR : R 0 0 0 e1) :

    ∃ v6 : Int, Spec P ball_CheckBall_s ⟨[a, b, r], [], []⟩ [v6] [] [] ∧ ((((v6 : Int) == 0) = true → False) ∧ (((v6 : Int) == 0) = false → R 0 0 0 v6)) := by

  simp only [beq_iff_eq, beq_eq_false_iff_ne, ne_eq]

  exact ⟨_, c1, h, fun _ => hR⟩

def op2 (f : Int → Int → Int → Int → Int → Int → Bq) (a b : Nat) (r : Int) (c d : Nat) (s : Int) : Bq := if tw a b r c d s = 0 then f (vI a) (vI b) r (vI c) (vI d) s else be (tw a b r c d s)

def op1 (f : Int → Int → Int → Bq) (a b : Nat) (r : Int) : Bq := if ckB a b r = 0 then f (vI a) (vI b) r else be (ckB a b r)

theorem fe_two {a b : Int} (h : fe a b = 0) : a = 0 ∧ b = 0 := by unfold fe at h; split at h <;> omega

theorem plus_p {a b c d : Nat} {r s : Int} (ha : U a) (hb : U b) (hr : I64 r) (hc : U c) (hd : U d) (hs : I64 s) : Spec Try.prog ball_Plus_s ⟨[(a : Int), (b : Int), r, (c : Int), (d : Int), s], [], []⟩ [F (op2 plusQ a b r c d s).x, F (op2 plusQ a b r c d s).y, (op2 plusQ a b r c d s).r, (op2 plusQ a b r c d s).e] [] [] := by

  unfold op2

  split

  · rename_i h; have := fe_two h; exact plus_good (ckB_rb ha hb this.1) (ckB_rb hc hd this.2)

  · rename_i h; exact BqF.out (plb hr hs (R := BqF _) (two_tree (checkBall_p ha hb hr) (checkBall_p hc hd hs) h (be_ok rfl)))

theorem minus_p {a b c d : Nat} {r s : Int} (ha : U a) (hb : U b) (hr : I64 r) (hc : U c) (hd : U d) (hs : I64 s) : Spec Try.prog ball_Minus_s ⟨[(a : Int), (b : Int), r, (c : Int), (d : Int), s], [], []⟩ [F (op2 minusQ a b r c d s).x, F (op2 minusQ a b r c d s).y, (op2 minusQ a b r c d s).r, (op2 minusQ a b r c d s).e] [] [] := by

  unfold op2

  split

  · rename_i h; have := fe_two h; exact minus_good (ckB_rb ha hb this.1) (ckB_rb hc hd this.2)

  · rename_i h; exact BqF.out (mib hr hs (R := BqF _) (two_tree (checkBall_p ha hb hr) (checkBall_p hc hd hs) h (be_ok rfl)))

theorem times_p {a b c d : Nat} {r s : Int} (ha : U a) (hb : U b) (hr : I64 r) (hc : U c) (hd : U d) (hs : I64 s) : Spec Try.prog ball_Times_s ⟨[(a : Int), (b : Int), r, (c : Int), (d : Int), s], [], []⟩ [F (op2 timesQ a b r c d s).x, F (op2 timesQ a b r c d s).y, (op2 timesQ a b r c d s).r, (op2 timesQ a b r c d s).e] [] [] := by

  unfold op2

  split

  · rename_i h; have := fe_two h; exact times_good (ckB_rb ha hb this.1) (ckB_rb hc hd this.2)

  · rename_i h; exact BqF.out (tib hr hs (R := BqF _) (two_tree (checkBall_p ha hb hr) (checkBall_p hc hd hs) h (be_ok rfl)))

theorem quot_p {a b c d : Nat} {r s : Int} (ha : U a) (hb : U b) (hr : I64 r) (hc : U c) (hd : U d) (hs : I64 s) : Spec Try.prog ball_Quotient_s ⟨[(a : Int), (b : Int), r, (c : Int), (d : Int), s], [], []⟩ [F (op2 quotQ a b r c d s).x, F (op2 quotQ a b r c d s).y, (op2 quotQ a b r c d s).r, (op2 quotQ a b r c d s).e] [] [] := by

  unfold op2

  split

  · rename_i h; have := fe_two h; exact quot_good (ckB_rb ha hb this.1) (ckB_rb hc hd this.2)

  · rename_i h; exact BqF.out (qub hr hs (R := BqF _) (two_tree (checkBall_p ha hb hr) (checkBall_p hc hd hs) h (be_ok rfl)))

theorem conj_p {a b : Nat} {r : Int} (ha : U a) (hb : U b) (hr : I64 r) : Spec Try.prog ball_Conj_s ⟨[(a : Int), (b : Int), r], [], []⟩ [F (op1 conjQ a b r).x, F (op1 conjQ a b r).y, (op1 conjQ a b r).r, (op1 conjQ a b r).e] [] [] := by

  unfold op1

  split

  · rename_i h; exact conj_good (ckB_rb ha hb h)

  · rename_i h; exact BqF.out (cjb hr (R := BqF _) (one_tree (checkBall_p ha hb hr) h (be_ok rfl)))

/-- The same of balls with whole parts. -/

def opW (f : Int → Int → Int → Int → Int → Int → Bq) (X Y r Z W s : Int) : Bq := if fe (ckW X Y r) (ckW Z W s) = 0 then f X Y r Z W s else be (fe (ckW X Y r) (ckW Z W s))

def opV (f : Int → Int → Int → Bq) (X Y r : Int) : Bq := if ckW X Y r = 0 then f X Y r else be (ckW X Y r)

theorem op2_W (f) {X Y r Z W s : Int} (hX : InF X) (hY : InF Y) (hZ : InF Z) (hW : InF W) : op2 f (fi X) (fi Y) r (fi Z) (fi W) s = opW f X Y r Z W s := by

  unfold op2 opW tw

  rw [ckB_rp (Rp_fi X) (Rp_fi Y) hX hY, ckB_rp (Rp_fi Z) (Rp_fi W) hZ hW, vI_rp (Rp_fi X) hX, vI_rp (Rp_fi Y) hY, vI_rp (Rp_fi Z) hZ, vI_rp (Rp_fi W) hW]

theorem op1_V (f) {X Y r : Int} (hX : InF X) (hY : InF Y) : op1 f (fi X) (fi Y) r = opV f X Y r := by

  unfold op1 opV

  rw [ckB_rp (Rp_fi X) (Rp_fi Y) hX hY, vI_rp (Rp_fi X) hX, vI_rp (Rp_fi Y) hY]

end Go.Proofs.Ytgdlddmbfockpaa.Ev
