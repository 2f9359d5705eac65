/- The statement on what fades together answers true. -/
import Derived.Test.YthkooiopiaakbaaFta
import Derived.Test.YthkooiopiaakbaaFadl
import Derived.Test.YthkooiopiaakbaaExq
namespace Go.Proofs.Ythkooiopiaakbaa
open Go.RowKit Go.Lib
set_option linter.unusedVariables false

/-- What fades by so many parts lies around a power: its ends, of 1024. -/
theorem fade_pow (M : Int) (m : Nat) (hM : M = 20000000 * 1073741824) (hm : (m : Int) = 32169908992) {P : Nat} (h1 : (P : Int) ≤ 16777216) :
    ∃ d u, FadD P d ∧ FadU P u ∧ 1073741824 * (M - 1) ^ (m * P) ≤ u * M ^ (m * P) ∧ d * M ^ (m * P) ≤ 1073741824 * (M - 1) ^ (m * P) := by
  have h0 : (0 : Int) ≤ (P : Int) := by omega
  obtain ⟨k, hk, h⟩ := IsH.ex (upX_bd h0 h1).2
  obtain ⟨k', hk', h'⟩ := IsH.ex (dnX_bd h0 h1).2
  have pb := pow_bd hk
  have pb' := pow_bd hk'
  have bu := fdiv_bd (n := upX P) (d := 2 ^ k) (M := 1048576) (Int.pow_pos (by decide)) (upX_bd h0 h1).1 h.1
  have b0 := firstU_bd bu.1 bu.2
  have bv := cdiv_bd (n := dnX P) (d := 2 ^ k') (M := 1048576) (Int.pow_pos (by decide)) (dnX_bd h0 h1).1 h'.1
  have b1 := firstD_bd bv.1 bv.2
  have U : FadU P (fadeU P k) := ⟨itr_bd (f := stepU) (fun x a b => stepU_bd a b) b0.1 b0.2 k, fun w => fadingUp_any h0 h1 hk h w, fun w => fadeRefUp_any h0 h1 hk h w⟩
  have D : FadD P (fadeD P k') := ⟨itr_bd (f := stepD) (fun x a b => stepD_bd a b) b1.1 b1.2 k', fun w => fadingDown_any h0 h1 hk' h' w, fun w => fadeRefDown_any h0 h1 hk' h' w⟩
  refine ⟨_, _, D, U, fadU_pow M m hM hm h1 h, ?_⟩
  cases P with
  | zero =>
    rw [Nat.mul_zero, Int.pow_zero, Int.pow_zero, Int.mul_one, Int.mul_one]
    exact D.1.2
  | succ P => exact fadD_pow M m hM hm (by omega) h1 h' hk'

/-- The ends of what fades, and the power between them. -/
structure Fd (E Y : Int) (L H : Int) : Prop where
  lo0 : 0 ≤ L
  hi1 : H ≤ 1048576
  hi0 : 0 ≤ H
  lo : L * 1024 * Y ≤ 1073741824 * E
  hi : 1073741824 * E ≤ H * 1024 * Y

theorem fd_of {E Y d u : Int} (hY : 0 ≤ Y) (hd : 0 ≤ d) (hu : 0 ≤ u ∧ u ≤ 1073741824) (h1 : 1073741824 * E ≤ u * Y) (h2 : d * Y ≤ 1073741824 * E) : Fd E Y (d / 1024) (cdiv u 1024) := by
  have k1 : d / 1024 * 1024 ≤ d := Int.ediv_mul_le _ (by decide)
  have k2 := cdiv_ge u 1024 (by decide)
  have k3 := cdiv_bd (n := u) (d := 1024) (M := 1048576) (by decide) hu.1 (by omega)
  have k4 := Int.mul_le_mul_of_nonneg_right k1 hY
  have k5 : u * Y ≤ cdiv u 1024 * 1024 * Y := Int.mul_le_mul_of_nonneg_right (by omega) hY
  exact ⟨Int.ediv_nonneg hd (by decide), k3.2, k3.1, by omega, by omega⟩

theorem fd_le {E Y L H : Int} (hY : 0 < Y) (h : Fd E Y L H) : L ≤ H := by
  have := Int.le_trans h.lo h.hi
  have := Int.le_of_mul_le_mul_right this hY
  omega

/-- The three enclosures. -/
theorem fd_three {E F Y Z aL aH bL bH cL cH : Int} (hY : 0 < Y) (hZ : 0 < Z) (hE : 0 ≤ E) (hF : 0 ≤ F) (hEY : E ≤ Y) (hFZ : F ≤ Z) (a : Fd E Y aL aH) (b : Fd F Z bL bH) (c : Fd (E * F) (Y * Z) cL cH) :
    cL * 1048576 ≤ aH * bH ∧ aL * bL ≤ cH * 1048576 ∧ cL ≤ aH ∧ cL ≤ bH := by
  have hYZ := Int.mul_pos hY hZ
  have n1 : 0 ≤ 1073741824 * E := by omega
  have n2 : 0 ≤ 1073741824 * F := by omega
  have u := Int.mul_le_mul a.hi b.hi n2 (Int.le_trans n1 a.hi)
  have l := Int.mul_le_mul a.lo b.lo (Int.mul_nonneg (by have := b.lo0; omega) (Int.le_of_lt hZ)) n1
  have c1 := c.lo
  have c2 := c.hi
  refine ⟨?_, ?_, ?_, ?_⟩
  · have e1 : aH * 1024 * Y * (bH * 1024 * Z) = 1048576 * (aH * bH * (Y * Z)) := by grind
    have e2 : 1073741824 * E * (1073741824 * F) = 1073741824 * (1073741824 * (E * F)) := by grind
    have e3 : cL * 1024 * (Y * Z) = 1024 * (cL * (Y * Z)) := by grind
    have e4 : cL * 1048576 * (Y * Z) = 1048576 * (cL * (Y * Z)) := by grind
    exact Int.le_of_mul_le_mul_right (a := Y * Z) (by omega) hYZ
  · have e1 : aL * 1024 * Y * (bL * 1024 * Z) = 1048576 * (aL * bL * (Y * Z)) := by grind
    have e2 : 1073741824 * E * (1073741824 * F) = 1073741824 * (1073741824 * (E * F)) := by grind
    have e3 : cH * 1024 * (Y * Z) = 1024 * (cH * (Y * Z)) := by grind
    have e4 : cH * 1048576 * (Y * Z) = 1048576 * (cH * (Y * Z)) := by grind
    exact Int.le_of_mul_le_mul_right (a := Y * Z) (by omega) hYZ
  · have k1 := Int.mul_le_mul_of_nonneg_left hFZ n1
    have k2 := Int.mul_le_mul_of_nonneg_right a.hi (Int.le_of_lt hZ)
    have e1 : 1073741824 * E * F = 1073741824 * (E * F) := by grind
    have e2 : aH * 1024 * Y * Z = aH * 1024 * (Y * Z) := by grind
    have := Int.le_of_mul_le_mul_right (a := Y * Z) (b := cL * 1024) (c := aH * 1024) (by omega) hYZ
    omega
  · have k1 := Int.mul_le_mul_of_nonneg_left hEY n2
    have k2 := Int.mul_le_mul_of_nonneg_right b.hi (Int.le_of_lt hY)
    have e1 : 1073741824 * F * E = 1073741824 * (E * F) := by grind
    have e2 : 1073741824 * F * Y = 1073741824 * F * Y := rfl
    have e3 : bH * 1024 * Z * Y = bH * 1024 * (Y * Z) := by grind
    have := Int.le_of_mul_le_mul_right (a := Y * Z) (b := cL * 1024) (c := bH * 1024) (by omega) hYZ
    omega

theorem pw_le {M : Int} (h : 0 ≤ M - 1) (n : Nat) : (M - 1) ^ n ≤ M ^ n := by
  induction n with
  | zero => simp
  | succ r ih =>
    rw [Int.pow_succ, Int.pow_succ]
    exact Int.mul_le_mul ih (by omega) h (pw_nn (by omega) r)

set_option maxRecDepth 100000 in
theorem far_isH {T : Nat} (hT : T = 16777216) : IsH (upX T) 15 := by
  rw [hT]
  exact ⟨by decide +kernel, fun j hj => by
    have : j = 0 ∨ j = 1 ∨ j = 2 ∨ j = 3 ∨ j = 4 ∨ j = 5 ∨ j = 6 ∨ j = 7 ∨ j = 8 ∨ j = 9 ∨ j = 10 ∨ j = 11 ∨ j = 12 ∨ j = 13 ∨ j = 14 := by omega
    rcases this with rfl | rfl | rfl | rfl | rfl | rfl | rfl | rfl | rfl | rfl | rfl | rfl | rfl | rfl | rfl <;> decide +kernel⟩
theorem far_val {T : Nat} (hT : T = 16777216) : fadeU T 15 ≤ 1024 := by rw [hT]; decide +kernel

/-- Far away hardly anything is left. -/
theorem far_pow (M : Int) (m : Nat) (hM : M = 20000000 * 1073741824) (hm : (m : Int) = 32169908992) {S : Nat} (h : 16777216 ≤ S) : 1073741824 * (M - 1) ^ (m * S) ≤ 1024 * M ^ (m * S) := by
  obtain ⟨T, hT⟩ : ∃ T : Nat, T = 16777216 := ⟨_, rfl⟩
  have h1 := fadU_pow M m hM hm (P := T) (k := 15) (by rw [hT]; decide) (far_isH hT)
  have h2 := far_val hT
  generalize fadeU T 15 = u at *
  obtain ⟨R, hR⟩ : ∃ R, S = T + R := ⟨S - T, by omega⟩
  have hM0 : 0 ≤ M - 1 := by rw [hM]; decide
  rw [hR, Nat.mul_add, Int.pow_add, Int.pow_add]
  have n1 := pw_nn hM0 (m * T)
  have n2 := pw_nn (M := M) (by omega) (m * T)
  have n3 := pw_nn hM0 (m * R)
  have p1 := pw_le hM0 (m * R)
  generalize (M - 1) ^ (m * T) = a at *
  generalize M ^ (m * T) = b at *
  generalize (M - 1) ^ (m * R) = c at *
  generalize M ^ (m * R) = d at *
  have k1 : u * b ≤ 1024 * b := Int.mul_le_mul_of_nonneg_right h2 n2
  have k2 := Int.mul_le_mul (Int.le_trans h1 k1) p1 n3 (Int.mul_nonneg (by decide) n2)
  have e1 : 1073741824 * (a * c) = 1073741824 * a * c := by grind
  have e2 : 1024 * (b * d) = 1024 * b * d := by grind
  omega

set_option maxHeartbeats 1000000 in
theorem together_walk (p q : Int) (w : World) : Calls Try.prog 13 #[.int .i64 p, .int .i64 q] w (Mem (.bool true) w) := by
  have W1 := fun w => within_memB p 0 10000000 w
  have W2 := fun w => within_memB q 0 10000000 w
  by_cases k1 : wiB p 0 10000000 = true
  case neg => rw [show wiB p 0 10000000 = false by simpa using k1] at W1; exact ft_1 (Lib.hid W1) w
  rw [k1] at W1
  by_cases k2 : wiB q 0 10000000 = true
  case neg => rw [show wiB q 0 10000000 = false by simpa using k2] at W2; exact ft_2 (Lib.hid W1) (Lib.hid W2) w
  rw [k2] at W2
  have hp : 0 ≤ p ∧ p ≤ 10000000 := by unfold wiB at k1; simpa using k1
  have hq : 0 ≤ q ∧ q ≤ 10000000 := by unfold wiB at k2; simpa using k2
  clear k1 k2
  obtain ⟨P, rfl⟩ := Int.eq_ofNat_of_zero_le hp.1
  obtain ⟨Q, rfl⟩ := Int.eq_ofNat_of_zero_le hq.1
  obtain ⟨M, hM⟩ : ∃ M : Int, M = 20000000 * 1073741824 := ⟨_, rfl⟩
  obtain ⟨m, hm⟩ : ∃ m : Nat, (m : Int) = 32169908992 := ⟨32169908992, by decide⟩
  have hM0 : 0 ≤ M - 1 := by rw [hM]; decide
  have hM1 : 0 < M := by rw [hM]; decide
  obtain ⟨dp, up, DP, UP, u1, l1⟩ := fade_pow M m hM hm (P := P) (by omega)
  obtain ⟨dq, uq, DQ, UQ, u2, l2⟩ := fade_pow M m hM hm (P := Q) (by omega)
  have yP : 0 < M ^ (m * P) := Int.pow_pos hM1
  have yQ : 0 < M ^ (m * Q) := Int.pow_pos hM1
  have eP := pw_nn hM0 (m * P)
  have eQ := pw_nn hM0 (m * Q)
  have lP := pw_le hM0 (m * P)
  have lQ := pw_le hM0 (m * Q)
  have fa := fd_of (Int.le_of_lt yP) DP.1.1 UP.1 u1 l1
  have fb := fd_of (Int.le_of_lt yQ) DQ.1.1 UQ.1 u2 l2
  have FA := fun w => Fading_case (FadCase.two (lo := P) (hi := P) dp up (by omega) (by omega) (by omega) DP UP) w
  have FB := fun w => Fading_case (FadCase.two (lo := Q) (hi := Q) dq uq (by omega) (by omega) (by omega) DQ UQ) w
  -- both together
  have hc : ∃ cL cH, (∀ w, Calls Try.prog 65 #[.agg #[.int .i64 ((P : Int) + Q), .int .i64 ((P : Int) + Q)]] w (Mem (rngV cL cH 0) w)) ∧ 0 ≤ cL ∧ cL ≤ 1048576 ∧ 0 ≤ cH ∧ cH ≤ 1048576 ∧
      cL * 1048576 ≤ cdiv up 1024 * cdiv uq 1024 ∧ dp / 1024 * (dq / 1024) ≤ cH * 1048576 ∧ cL ≤ cdiv up 1024 ∧ cL ≤ cdiv uq 1024 := by
    by_cases hs : (P : Int) + Q ≤ 16777216
    · obtain ⟨dc, uc, DC, UC, u3, l3⟩ := fade_pow M m hM hm (P := P + Q) (by omega)
      rw [Nat.mul_add, Int.pow_add, Int.pow_add] at u3 l3
      have fc := fd_of (Int.le_of_lt (Int.mul_pos yP yQ)) DC.1.1 UC.1 u3 l3
      have hcast : ((P + Q : Nat) : Int) = (P : Int) + Q := by omega
      rw [hcast] at DC UC
      have FC := fun w => Fading_case (FadCase.two (lo := (P : Int) + Q) (hi := (P : Int) + Q) dc uc (by omega) (by omega) hs DC UC) w
      have r := fd_three yP yQ eP eQ lP lQ fa fb fc
      have := fc.lo0; have := fc.hi1; have := fc.hi0; have := fa.hi1
      exact ⟨_, _, FC, fc.lo0, by omega, fc.hi0, fc.hi1, r.1, r.2.1, r.2.2.1, r.2.2.2⟩
    · have FC := fun w => Fading_case (FadCase.none (lo := (P : Int) + Q) (hi := (P : Int) + Q) (by omega) (by omega) (by omega) (by omega)) w
      have fp := far_pow M m hM hm (S := P + Q) (by omega)
      rw [Nat.mul_add, Int.pow_add, Int.pow_add] at fp
      have n1 : 0 ≤ 1073741824 * (M - 1) ^ (m * P) := by omega
      have l := Int.mul_le_mul fa.lo fb.lo (Int.mul_nonneg (by have := fb.lo0; omega) (Int.le_of_lt yQ)) n1
      have hYZ := Int.mul_pos yP yQ
      refine ⟨_, _, FC, by decide, by decide, by decide, by decide, ?_, ?_, fa.hi0, fb.hi0⟩
      · rw [Int.zero_mul]; exact Int.mul_nonneg fa.hi0 fb.hi0
      · generalize dp / 1024 = aL at *
        generalize dq / 1024 = bL at *
        generalize (M - 1) ^ (m * P) = E at *
        generalize (M - 1) ^ (m * Q) = F at *
        generalize M ^ (m * P) = Y at *
        generalize M ^ (m * Q) = Z at *
        have e1 : aL * 1024 * Y * (bL * 1024 * Z) = 1048576 * (aL * bL * (Y * Z)) := by grind
        have e2 : 1073741824 * E * (1073741824 * F) = 1073741824 * (1073741824 * (E * F)) := by grind
        have e4 : 1 * 1048576 * (Y * Z) = 1048576 * (Y * Z) := by grind
        refine Int.le_of_mul_le_mul_right (a := Y * Z) ?_ hYZ
        rw [e1, e2] at l
        rw [e4]
        omega
  obtain ⟨cL, cH, FC, c0, c1, c2, c3, g1, g2, g3, g4⟩ := hc
  have ha := fd_le yP fa
  have hb := fd_le yQ fb
  have a0 := fa.lo0; have a1 := fa.hi0; have a2 := fa.hi1
  have b0 := fb.lo0; have b1 := fb.hi0; have b2 := fb.hi1
  have FD : ∀ (x y dx uy : Int), x ≤ y → 0 ≤ x → y ≤ 10000000 → FadD y dx → FadU x uy → ∀ w, Calls Try.prog 65 #[.agg #[.int .i64 x, .int .i64 y]] w (Mem (rngV (dx / 1024) (cdiv uy 1024) 0) w) :=
    fun x y dx uy h1 h2 h3 hd hu w => Fading_case (FadCase.two dx uy h2 h1 (by omega) hd hu) w
  have WA := fun w => within_memB (dp / 1024) 0 (cdiv up 1024) w
  have WB := fun w => within_memB (dq / 1024) 0 (cdiv uq 1024) w
  clear fa fb u1 l1 u2 l2 eP eQ lP lQ yP yQ hM0 hM1 hM hm
  have DP' := Lib.hid DP; have UP' := Lib.hid UP; have DQ' := Lib.hid DQ; have UQ' := Lib.hid UQ
  clear DP UP DQ UQ
  rw [show wiB (dp / 1024) 0 (cdiv up 1024) = true by unfold wiB; simp; exact ⟨a0, ha⟩] at WA
  rw [show wiB (dq / 1024) 0 (cdiv uq 1024) = true by unfold wiB; simp; exact ⟨b0, hb⟩] at WB
  have m1 := mul_bd0 a1 a2 b1 b2
  have m2 := mul_bd0 a0 (Int.le_trans ha a2) b0 (Int.le_trans hb b2)
  have v0 : IntKind.i64.wrap ((P : Int) + Q) = (P : Int) + Q := IntWalk.i64_in _ (by constructor <;> omega)
  have FDq := FD P Q dq up
  have FDp := FD Q P dp uq
  generalize dp / 1024 = aL at *
  generalize cdiv up 1024 = aH at *
  generalize dq / 1024 = bL at *
  generalize cdiv uq 1024 = bH at *
  have v1 : IntKind.i64.wrap (cL * 1048576) = cL * 1048576 := IntWalk.i64_in _ (by constructor <;> omega)
  have v2 : IntKind.i64.wrap (aH * bH) = aH * bH := IntWalk.i64_in _ (by constructor <;> omega)
  have v3 : IntKind.i64.wrap (aL * bL) = aL * bL := IntWalk.i64_in _ (by constructor <;> omega)
  have v4 : IntKind.i64.wrap (cH * 1048576) = cH * 1048576 := IntWalk.i64_in _ (by constructor <;> omega)
  have d1 : decide (1048576 < aH) = false := by simp; omega
  have d2 : decide (1048576 < bH) = false := by simp; omega
  have d3 : decide (aH * bH < cL * 1048576) = false := by simp; omega
  have d4 : decide (cH * 1048576 < aL * bL) = false := by simp; omega
  unfold rngV at *
  by_cases hs : (Q : Int) < P
  · have FD := FDp (by omega) hq.1 hp.2 DP'.out UQ'.out
    exact ft_gt (mi := Q) (ma := P) (mH := if bH < aH then bH else aH) (Lib.hid W1) (Lib.hid W2) (Lib.hid FA) (Lib.hid FB) v0 (Lib.hid FC) (by rw [if_neg (by omega)]) (by rw [if_pos hs]) (by rw [if_neg (by omega)]) (Lib.hid FD) (Lib.hid WA) (Lib.hid WB) d1 d2 v1 v2 d3 v3 v4 d4 (by simpa using hs) (by simp) (by simp) rfl (by split <;> split <;> omega) (by simp; split <;> omega) w
  · have FD := FDq (by omega) hp.1 hq.2 DQ'.out UP'.out
    exact ft_le (mi := P) (ma := Q) (mH := if aH < bH then aH else bH) (Lib.hid W1) (Lib.hid W2) (Lib.hid FA) (Lib.hid FB) v0 (Lib.hid FC) (by split <;> omega) (by rw [if_neg hs]) (by split <;> omega) (Lib.hid FD) (Lib.hid WA) (Lib.hid WB) d1 d2 v1 v2 d3 v3 v4 d4 (by simpa using hs) (by simp) (by simp) rfl (by split <;> split <;> omega) (by simp; split <;> omega) w
end Go.Proofs.Ythkooiopiaakbaa
