/- Unit numbers in general. -/
import Derived.Test.YthodhenhmjgodaaRari
import Derived.Test.YthodhenhmjgodaaRange
namespace Go.Proofs.Ythodhenhmjgodaa
open Go.RowKit Go.Lib
attribute [local go_sem] run_store_float run_store_complex
set_option linter.unusedVariables false

def uLo (n d : Int) : Int := n * 4194304 / d
def uHi (n d : Int) : Int := cdiv (n * 4194304) d
def unitV (n d : Int) : Value := if ckF n d = 0 then arcV (dir1 ((uLo n d + uHi n d) / 2 % 4194304)).1 (dir1 ((uLo n d + uHi n d) / 2 % 4194304)).2 (uLo n d) (uHi n d) else balV 0 0 0 (ckF n d)
def unitRefV (n d : Int) : Value := if ckF n d = 0 then chkV (rdiv (dir1 ((uLo n d + uHi n d) / 2 % 4194304)).1 64) (rdiv (dir1 ((uLo n d + uHi n d) / 2 % 4194304)).2 64) (arcR (uLo n d) (uHi n d)) else refV 0 0 0 (ckF n d)

theorem u_bd {n d : Int} (hn : Sm 1000000000 n) (hd : 1 ≤ d) : -4194304000000000 ≤ uLo n d ∧ uLo n d ≤ uHi n d ∧ uHi n d ≤ uLo n d + 1 ∧ uHi n d ≤ 4194304000000000 ∧ uLo n d ≤ 4194304000000000 := by
  obtain ⟨h1, h2⟩ := hn
  unfold uLo uHi cdiv
  have e1 := Int.mul_ediv_add_emod (n * 4194304) d
  have r0 := Int.emod_nonneg (n * 4194304) (show d ≠ 0 by omega)
  have r1 := Int.emod_lt_of_pos (n * 4194304) (show 0 < d by omega)
  have e2 := Int.mul_ediv_add_emod (-(n * 4194304)) d
  have s0 := Int.emod_nonneg (-(n * 4194304)) (show d ≠ 0 by omega)
  have s1 := Int.emod_lt_of_pos (-(n * 4194304)) (show 0 < d by omega)
  have k1 := ediv_abs (n := n * 4194304) (d := d) (by omega)
  have k2 := ediv_abs (n := -(n * 4194304)) (d := d) (by omega)
  generalize n * 4194304 / d = a at *
  generalize -(n * 4194304) / d = b at *
  generalize n * 4194304 % d = s at *
  generalize -(n * 4194304) % d = t at *
  have hsum : d * (a + b) = -(s + t) := by rw [Int.mul_add]; omega
  have h3 : a + b ≤ 0 := by
    by_cases h : 0 < a + b
    · have : d * 1 ≤ d * (a + b) := Int.mul_le_mul_of_nonneg_left (by omega) (by omega)
      omega
    · omega
  have h4 : -1 ≤ a + b := by
    by_cases h : a + b ≤ -2
    · have : d * (a + b) ≤ d * (-2) := Int.mul_le_mul_of_nonneg_left h (by omega)
      omega
    · omega
  omega

theorem Unit_any (n d : Int) (w : World) : Calls Try.prog 60 #[.int .i64 n, .int .i64 d] w (Mem (unitV n d) w) := by
  have HC := Lib.hid fun w => checkFrac_any n d w
  unfold unitV
  by_cases hc : ckF n d = 0
  · rw [if_pos hc]
    obtain ⟨hn, hd, hd'⟩ := ckF_ok hc
    obtain ⟨b1, b2, b3, b4, b5⟩ := u_bd hn hd
    have D := DvIn_by (x := n) (y := 4194304) (d := d) (X := 1000000000) (Y := 4194304) hn.1 hn.2 (by decide) (by decide) (by omega) (by omega) (by decide) (by decide) (by decide)
    have HL := Lib.hid fun w => lower_any n 4194304 d (Lib.hid D) w
    have HU := Lib.hid fun w => upper_any n 4194304 d (Lib.hid D) w
    change Hid (∀ w, Calls Try.prog _ _ w (Quiet (.int .i64 (uLo n d)) w)) at HL
    change Hid (∀ w, Calls Try.prog _ _ w (Quiet (.int .i64 (uHi n d)) w)) at HU
    have HA := fun w => arc_any (lo := uLo n d) (hi := uHi n d) ⟨by omega, by omega⟩ ⟨by omega, by omega⟩ b2 (DirOk_any ((uLo n d + uHi n d) / 2)) w
    unfold arcV at *
    obtain ⟨za, zb, zr, ze, hz⟩ := resB_eq (rdiv (dir1 ((uLo n d + uHi n d) / 2 % 4194304)).1 64) (rdiv (dir1 ((uLo n d + uHi n d) / 2 % 4194304)).2 64) (arcR (uLo n d) (uHi n d))
    rw [hz] at HA ⊢
    exact Unit_ok hc HC HL HU (Lib.hid HA) w
  · rw [if_neg hc]; exact Unit_bad hc HC w

theorem arcOf_any {n d : Int} (hn : Sm 1000000000 n) (hd : 1 ≤ d) (hd' : d ≤ 1000000000) (w : World) :
    Calls Try.prog 128 #[.int .i64 n, .int .i64 d] w (Mem (chkV (rdiv (dir1 ((uLo n d + uHi n d) / 2 % 4194304)).1 64) (rdiv (dir1 ((uLo n d + uHi n d) / 2 % 4194304)).2 64) (arcR (uLo n d) (uHi n d))) w) := by
  obtain ⟨b1, b2, b3, b4, b5⟩ := u_bd hn hd
  obtain ⟨h1, h2⟩ := hn
  have HF := Lib.hid fun w => Floor_any (n * 4194304) d (by omega) (by omega) (by omega) (by omega) w
  have HC := Lib.hid fun w => Ceil_any (n * 4194304) d (by omega) (by omega) (by omega) (by omega) w
  change Hid (∀ w, Calls Try.prog _ _ w fun e w' => e = .returned (.int .i64 (uLo n d)) ∧ w = w') at HF
  change Hid (∀ w, Calls Try.prog _ _ w fun e w' => e = .returned (.int .i64 (uHi n d)) ∧ w = w') at HC
  generalize uLo n d = lo at *
  generalize uHi n d = hi at *
  have HW := Lib.hid fun w => Floor_any lo 4194304 (by omega) (by omega) (by decide) (by decide) w
  obtain ⟨q, hq⟩ : ∃ q, lo / 4194304 = q := ⟨_, rfl⟩
  rw [hq] at HW
  have HA := fun w => refArc_any (lo - q * 4194304) (hi - q * 4194304) w
  have hck : ckR (lo - q * 4194304) (hi - q * 4194304) 1099511627776 = 0 := by
    unfold ckR szB
    have c1 : decide (-1099511627776 ≤ lo - q * 4194304) = true := by simp; omega
    have c2 : decide (lo - q * 4194304 ≤ 1099511627776) = true := by simp; omega
    have c3 : decide (-1099511627776 ≤ hi - q * 4194304) = true := by simp; omega
    have c4 : decide (hi - q * 4194304 ≤ 1099511627776) = true := by simp; omega
    have c5 : ¬ hi - q * 4194304 < lo - q * 4194304 := by omega
    rw [c1, c2, c3, c4]; simp [c5]
  unfold arcRefV at HA
  rw [if_pos hck] at HA
  have e1 : (lo - q * 4194304 + (hi - q * 4194304)) / 2 % 4194304 = (lo + hi) / 2 % 4194304 := by omega
  have e2 : arcR (lo - q * 4194304) (hi - q * 4194304) = arcR lo hi := by
    unfold arcR
    have k3 : hi - q * 4194304 - (lo - q * 4194304 + (hi - q * 4194304)) / 2 = hi - (lo + hi) / 2 := by omega
    by_cases h : lo = hi ∧ lo % 1048576 = 0
    · rw [if_pos h, if_pos (by omega)]
    · rw [if_neg h, if_neg (by omega), k3]
  rw [e1, e2] at HA
  obtain ⟨a, b, c, f, hz⟩ := chkV_eq (rdiv (dir1 ((lo + hi) / 2 % 4194304)).1 64) (rdiv (dir1 ((lo + hi) / 2 % 4194304)).2 64) (arcR lo hi)
  rw [hz] at HA ⊢
  exact arcOf_walk h1 h2 (by omega) (by omega) (by omega) (by omega) (by omega) (by omega) HF HC HW (Lib.hid HA) w

theorem refUnit_any (n d : Int) (w : World) : Calls Try.prog 62 #[.int .i64 n, .int .i64 d] w (Mem (unitRefV n d) w) := by
  have H0 := fun w => Within_any n (-1000000000) 1000000000 w
  have H1 := fun w => Within_any d 1 1000000000 w
  have eL : wiB n (-1000000000) 1000000000 = szB n 1000000000 := rfl
  rw [eL] at H0
  have hd : ckF n d = if szB n 1000000000 && wiB d 1 1000000000 then 0 else 2 := rfl
  unfold unitRefV
  by_cases h1 : szB n 1000000000 = true
  · by_cases h2 : wiB d 1 1000000000 = true
    · have hc : ckF n d = 0 := by rw [hd, h1, h2]; rfl
      rw [if_pos hc]
      obtain ⟨hn, hd, hd'⟩ := ckF_ok hc
      have HA := fun w => arcOf_any hn hd hd' w
      obtain ⟨a, b, c, f, hz⟩ := chkV_eq (rdiv (dir1 ((uLo n d + uHi n d) / 2 % 4194304)).1 64) (rdiv (dir1 ((uLo n d + uHi n d) / 2 % 4194304)).2 64) (arcR (uLo n d) (uHi n d))
      rw [hz] at HA ⊢
      rw [h1] at H0; rw [h2] at H1
      exact rUnit_ok (Lib.hid H0) (Lib.hid H1) (Lib.hid HA) w
    · have h2' : wiB d 1 1000000000 = false := by simpa using h2
      have hc : ckF n d = 2 := by rw [hd, h1, h2']; rfl
      rw [hc, if_neg (by decide)]
      rw [h1] at H0; rw [h2'] at H1
      exact rUnit_bad2 (Lib.hid H0) (Lib.hid H1) w
  · have h1' : szB n 1000000000 = false := by simpa using h1
    have hc : ckF n d = 2 := by rw [hd, h1']; rfl
    rw [hc, if_neg (by decide)]
    rw [h1'] at H0
    exact rUnit_bad1 (Lib.hid H0) w

theorem pair_unit (n d : Int) : Pair (unitV n d) (unitRefV n d) := by
  unfold unitV unitRefV arcV
  by_cases hc : ckF n d = 0
  · rw [if_pos hc, if_pos hc]
    obtain ⟨hn, hd, hd'⟩ := ckF_ok hc
    exact pair_res (arcR_nn (u_bd hn hd).2.1)
  · rw [if_neg hc, if_neg hc]; exact pair_bad _
end Go.Proofs.Ythodhenhmjgodaa
