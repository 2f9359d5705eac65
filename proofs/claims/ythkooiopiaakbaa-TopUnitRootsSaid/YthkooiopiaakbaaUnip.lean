/- Unit numbers of the program in general. -/
import Derived.Test.YthkooiopiaakbaaUnit
import Derived.Test.YthkooiopiaakbaaRange
import Derived.Test.YthkooiopiaakbaaBase
namespace Go.Proofs.Ythkooiopiaakbaa
open Go.RowKit Go.Lib
attribute [local go_sem] run_store_float run_store_complex
set_option linter.unusedVariables false

def uLo (n d : Int) : Int := n * 4194304 / d
def uHi (n d : Int) : Int := cdiv (n * 4194304) d
def unitV (n d : Int) : Value := if ckF n d = 0 then arcV (dir1 ((uLo n d + uHi n d) / 2 % 4194304)).1 (dir1 ((uLo n d + uHi n d) / 2 % 4194304)).2 (uLo n d) (uHi n d) else balV 0 0 0 (ckF n d)

theorem u_bd {n d : Int} (hn : Sm 1000000000 n) (hd : 1 ≤ d) : -4194304000000000 ≤ uLo n d ∧ uLo n d ≤ uHi n d ∧ uHi n d ≤ uLo n d + 1 ∧ uHi n d ≤ 4194304000000000 ∧ uLo n d ≤ 4194304000000000 := by
  obtain ⟨h1, h2⟩ := hn
  unfold uLo uHi cdiv
  have e1 := Int.mul_ediv_add_emod (n * 4194304) d
  have r0 := Int.emod_nonneg (n * 4194304) (show d ≠ 0 by omega)
  have r1 := Int.emod_lt_of_pos (n * 4194304) (show 0 < d by omega)
  have e2 := Int.mul_ediv_add_emod (-(n * 4194304)) d
  have s0 := Int.emod_nonneg (-(n * 4194304)) (show d ≠ 0 by omega)
  have s1 := Int.emod_lt_of_pos (-(n * 4194304)) (show 0 < d by omega)
  have k1 := ediv_abs (n := n * 4194304) (d := d) (by omega)
  have k2 := ediv_abs (n := -(n * 4194304)) (d := d) (by omega)
  generalize n * 4194304 / d = a at *
  generalize -(n * 4194304) / d = b at *
  generalize n * 4194304 % d = s at *
  generalize -(n * 4194304) % d = t at *
  have hsum : d * (a + b) = -(s + t) := by rw [Int.mul_add]; omega
  have h3 : a + b ≤ 0 := by
    by_cases h : 0 < a + b
    · have : d * 1 ≤ d * (a + b) := Int.mul_le_mul_of_nonneg_left (by omega) (by omega)
      omega
    · omega
  have h4 : -1 ≤ a + b := by
    by_cases h : a + b ≤ -2
    · have : d * (a + b) ≤ d * (-2) := Int.mul_le_mul_of_nonneg_left h (by omega)
      omega
    · omega
  omega

theorem Unit_any (n d : Int) (w : World) : Calls Try.prog 60 #[.int .i64 n, .int .i64 d] w (Mem (unitV n d) w) := by
  have HC := Lib.hid fun w => checkFrac_any n d w
  unfold unitV
  by_cases hc : ckF n d = 0
  · rw [if_pos hc]
    obtain ⟨hn, hd, hd'⟩ := ckF_ok hc
    obtain ⟨b1, b2, b3, b4, b5⟩ := u_bd hn hd
    have D := DvIn_by (x := n) (y := 4194304) (d := d) (X := 1000000000) (Y := 4194304) hn.1 hn.2 (by decide) (by decide) (by omega) (by omega) (by decide) (by decide) (by decide)
    have HL := Lib.hid fun w => lower_any n 4194304 d (Lib.hid D) w
    have HU := Lib.hid fun w => upper_any n 4194304 d (Lib.hid D) w
    change Hid (∀ w, Calls Try.prog _ _ w (Quiet (.int .i64 (uLo n d)) w)) at HL
    change Hid (∀ w, Calls Try.prog _ _ w (Quiet (.int .i64 (uHi n d)) w)) at HU
    have HA := fun w => arc_any (lo := uLo n d) (hi := uHi n d) ⟨by omega, by omega⟩ ⟨by omega, by omega⟩ b2 (DirOk_any ((uLo n d + uHi n d) / 2)) w
    unfold arcV at *
    obtain ⟨za, zb, zr, ze, hz⟩ := resB_eq (rdiv (dir1 ((uLo n d + uHi n d) / 2 % 4194304)).1 64) (rdiv (dir1 ((uLo n d + uHi n d) / 2 % 4194304)).2 64) (arcR (uLo n d) (uHi n d))
    rw [hz] at HA ⊢
    exact Unit_ok hc HC HL HU (Lib.hid HA) w
  · rw [if_neg hc]; exact Unit_bad hc HC w

end Go.Proofs.Ythkooiopiaakbaa
