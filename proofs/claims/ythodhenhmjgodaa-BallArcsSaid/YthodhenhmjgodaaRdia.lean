/- The reference's directions in general. -/
import Derived.Test.YthodhenhmjgodaaRdir
namespace Go.Proofs.Ythodhenhmjgodaa
open Go.RowKit Go.Lib
attribute [local go_sem] run_store_float run_store_complex
set_option linter.unusedVariables false

def RD (m : Int) (p : Int × Int) : Prop := ∀ w, Calls Try.prog 127 #[.int .i64 m] w (Mem (.agg #[.int .i64 p.1, .int .i64 p.2]) w)
def HMod (m M : Int) : Prop := Hid (∀ w, Calls Try.prog 96 #[.int .i64 m, .int .i64 4194304] w fun e w' => e = .returned (.int .i64 M) ∧ w = w')

theorem hmod_self {m : Int} (h0 : 0 ≤ m) (h1 : m < 4194304) : HMod m m := Lib.hid fun w => by
  have h := Mod_any m 4194304 (by omega) (by omega) (by decide) (by decide) w
  rwa [show m % 4194304 = m by omega] at h

theorem rdirP8 {m M : Int} (HM : HMod m M) (h0 : 0 ≤ M) (h1 : M ≤ 524288) : RD m (dir8 M) := by
  obtain ⟨D, hD⟩ : ∃ D, D = dir8 M := ⟨_, rfl⟩
  rw [← hD]
  by_cases hz : M = 0
  · intro w
    have hd : D = (67108864, 0) := by
      rw [hD, hz]; unfold dir8; rw [if_neg (by decide), hv_same]
    rw [hd]
    exact rdirW0 hz HM w
  · intro w
    refine rdirW8 (by omega) h1 (Lib.hid ⟨by rw [show (2 : Int) ^ 19 = 524288 from by decide]; omega, ei_lo, ei_hi, fun h => ?_, fun h => ?_⟩) HM w
    · rw [hD]; unfold dir8; rw [if_pos h]
    · rw [hD]; unfold dir8; rw [if_neg (by omega)]

theorem rdirP4 {m M : Int} (HM : HMod m M) (h0 : 0 ≤ M) (h1 : M < 1048576) : RD m (dir4 M) := by
  unfold dir4
  by_cases h : 524288 < M
  · rw [if_pos h]
    have H := rdirP8 (hmod_self (m := 1048576 - M) (by omega) (by omega)) (by omega) (by omega)
    have hs := (dir8_ei (1048576 - M)).si
    generalize dir8 (1048576 - M) = p at *
    exact fun w => rdirW4 (by omega) h1 hs.1 hs.2 (Lib.hid H) HM w
  · rw [if_neg h]; exact rdirP8 HM h0 (by omega)

theorem rdirP2 {m M : Int} (HM : HMod m M) (h0 : 0 ≤ M) (h1 : M < 2097152) : RD m (dir2 M) := by
  unfold dir2
  by_cases h : 1048576 ≤ M
  · rw [if_pos h]
    have H := rdirP4 (hmod_self (m := M - 1048576) (by omega) (by omega)) (by omega) (by omega)
    have hs := dir4_si (M - 1048576)
    generalize dir4 (M - 1048576) = p at *
    exact fun w => rdirW2 h h1 hs.1 hs.2 (Lib.hid H) HM w
  · rw [if_neg h]; exact rdirP4 HM h0 (by omega)

theorem rdirP1 {m M : Int} (HM : HMod m M) (h0 : 0 ≤ M) (h1 : M < 4194304) : RD m (dir1 M) := by
  unfold dir1
  by_cases h : 2097152 ≤ M
  · rw [if_pos h]
    have H := rdirP2 (hmod_self (m := M - 2097152) (by omega) (by omega)) (by omega) (by omega)
    have hs := dir2_si (M - 2097152)
    generalize dir2 (M - 2097152) = p at *
    exact fun w => rdirW1 h h1 hs.1 hs.2 (Lib.hid H) HM w
  · rw [if_neg h]; exact rdirP2 HM h0 (by omega)

theorem refDir_any {m : Int} (h0 : -9223372036854775808 < m) (h1 : m < 9223372036854775808) : RD m (dir1 (m % 4194304)) :=
  rdirP1 (Lib.hid fun w => Mod_any m 4194304 h0 h1 (by decide) (by decide) w) (by omega) (by omega)
end Go.Proofs.Ythodhenhmjgodaa
