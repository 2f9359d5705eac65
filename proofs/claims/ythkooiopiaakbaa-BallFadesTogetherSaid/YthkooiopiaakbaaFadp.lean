/- The contracts of the enclosure of what fades, of package ball and of the reference. -/
import Derived.Test.YthkooiopiaakbaaFadr
import Derived.Test.YthkooiopiaakbaaAwake
namespace Go.Proofs.Ythkooiopiaakbaa
open Go.RowKit Go.Lib
attribute [local go_sem] run_store_float run_store_complex

/-- What the callees give, for what fades from lo to hi. -/
def FadD (hi d : Int) : Prop := (0 ≤ d ∧ d ≤ 1073741824) ∧ (∀ w, Calls Try.prog 132 #[.int .i64 hi] w (Quiet (.int .i64 d) w)) ∧ (∀ w, Calls Try.prog 134 #[.int .i64 hi, .bool false] w (fun e w' => e = .returned (.int .i64 d) ∧ w = w'))
def FadU (lo u : Int) : Prop := (0 ≤ u ∧ u ≤ 1073741824) ∧ (∀ w, Calls Try.prog 133 #[.int .i64 lo] w (Quiet (.int .i64 u) w)) ∧ (∀ w, Calls Try.prog 134 #[.int .i64 lo, .bool true] w (fun e w' => e = .returned (.int .i64 u) ∧ w = w'))

theorem fadD_ex {p : Int} (h0 : 0 ≤ p) (h1 : p ≤ 16777216) : ∃ d, FadD p d := by
  obtain ⟨k, hk, h⟩ := IsH.ex (dnX_bd h0 h1).2
  have pb := pow_bd hk
  have bu := cdiv_bd (n := dnX p) (d := 2 ^ k) (M := 1048576) (by omega) (dnX_bd h0 h1).1 h.1
  have b0 := firstD_bd bu.1 bu.2
  exact ⟨fadeD p k, itr_bd (f := stepD) (fun x a b => stepD_bd a b) b0.1 b0.2 k, fun w => fadingDown_any h0 h1 hk h w, fun w => fadeRefDown_any h0 h1 hk h w⟩
theorem fadU_ex {p : Int} (h0 : 0 ≤ p) (h1 : p ≤ 16777216) : ∃ d, FadU p d := by
  obtain ⟨k, hk, h⟩ := IsH.ex (upX_bd h0 h1).2
  have pb := pow_bd hk
  have bu := fdiv_bd (n := upX p) (d := 2 ^ k) (M := 1048576) (by omega) (upX_bd h0 h1).1 h.1
  have b0 := firstU_bd bu.1 bu.2
  exact ⟨fadeU p k, itr_bd (f := stepU) (fun x a b => stepU_bd a b) b0.1 b0.2 k, fun w => fadingUp_any h0 h1 hk h w, fun w => fadeRefUp_any h0 h1 hk h w⟩

theorem quo1024 (d : Int) : d * 1048576 / 1073741824 = d / 1024 := by
  omega
theorem cquo1024 (d : Int) : cdiv (d * 1048576) 1073741824 = cdiv d 1024 := by
  rw [cdiv_eq _ (by decide), cdiv_eq _ (by decide)]
  by_cases h : d % 1024 = 0
  · rw [if_pos h, if_pos (by omega)]; omega
  · rw [if_neg h, if_neg (by omega)]; omega

/-- The cases of what fades: the result's ends and the error. -/
inductive FadCase (lo hi : Int) : Int → Int → Int → Prop
  | low : lo < 0 → FadCase lo hi 0 0 2
  | far : 0 ≤ lo → 1099511627776 < lo → FadCase lo hi 0 0 2
  | wide : 0 ≤ lo → lo ≤ 1099511627776 → 1099511627776 < hi → FadCase lo hi 0 0 2
  | order : 0 ≤ lo → lo ≤ 1099511627776 → hi ≤ 1099511627776 → hi < lo → FadCase lo hi 0 0 10
  | none : 0 ≤ lo → lo ≤ hi → hi ≤ 1099511627776 → 16777216 < lo → FadCase lo hi 0 1 0
  | one (u : Int) : 0 ≤ lo → lo ≤ hi → hi ≤ 1099511627776 → lo ≤ 16777216 → 16777216 < hi → FadU lo u → FadCase lo hi 0 (cdiv u 1024) 0
  | two (d u : Int) : 0 ≤ lo → lo ≤ hi → hi ≤ 16777216 → FadD hi d → FadU lo u → FadCase lo hi (d / 1024) (cdiv u 1024) 0

theorem fadCase_ex (lo hi : Int) : ∃ a b c, FadCase lo hi a b c := by
  by_cases h1 : lo < 0
  · exact ⟨_, _, _, .low h1⟩
  by_cases h2 : 1099511627776 < lo
  · exact ⟨_, _, _, .far (by omega) h2⟩
  by_cases h3 : 1099511627776 < hi
  · exact ⟨_, _, _, .wide (by omega) (by omega) h3⟩
  by_cases h4 : hi < lo
  · exact ⟨_, _, _, .order (by omega) (by omega) (by omega) h4⟩
  by_cases h5 : 16777216 < lo
  · exact ⟨_, _, _, .none (by omega) (by omega) (by omega) h5⟩
  obtain ⟨u, hu⟩ := fadU_ex (p := lo) (by omega) (by omega)
  by_cases h6 : 16777216 < hi
  · exact ⟨_, _, _, .one u (by omega) (by omega) (by omega) (by omega) h6 hu⟩
  obtain ⟨d, hd⟩ := fadD_ex (p := hi) (by omega) (by omega)
  exact ⟨_, _, _, .two d u (by omega) (by omega) (by omega) hd hu⟩

set_option maxHeartbeats 1000000 in
theorem Fading_low {lo hi : Int} (h : lo < 0) (w : World) : Calls Try.prog 65 #[.agg #[.int .i64 lo, .int .i64 hi]] w (Mem (rngV 0 0 2) w) := by
  unfold rngV
  go_enter Try.func65, Try.ntmps65
  go_wp2
  refine bodyPost_ret (v := .tuple #[.agg #[.int .i64 0, .int .i64 0], .int .i64 2]) (by simp [results, Try.results65, go_sem]) rfl ⟨rfl, ?_⟩
  repeat (first | exact Below.refl _ _ | refine Below.drew ?_ | refine below_drewN ?_ _ | refine Below.setCell ?_ (by simp <;> omega) _ | refine Below.alloc ?_ (by first | exact Nat.le_refl _ | (simp <;> omega)) _)

set_option maxHeartbeats 1000000 in
theorem FadingRef_low {lo hi : Int} (h : lo < 0) (w : World) : Calls Try.prog 66 #[.agg #[.int .i64 lo, .int .i64 hi]] w (Mem (rngV 0 0 2) w) := by
  unfold rngV
  go_enter Try.func66, Try.ntmps66
  go_wp2
  refine bodyPost_ret (v := .tuple #[.agg #[.int .i64 0, .int .i64 0], .int .i64 2]) (by simp [results, Try.results66, go_sem]) rfl ⟨rfl, ?_⟩
  repeat (first | exact Below.refl _ _ | refine Below.drew ?_ | refine below_drewN ?_ _ | refine Below.setCell ?_ (by simp <;> omega) _ | refine Below.alloc ?_ (by first | exact Nat.le_refl _ | (simp <;> omega)) _)

end Go.Proofs.Ythkooiopiaakbaa
