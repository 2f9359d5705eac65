/- Floats of any bits: the reference's test whether they are whole. -/
import Derived.Test.YtgdhpgjfebinhaaFrwd
namespace Go.Proofs.Ytgdhpgjfebinhaa.Ev
set_option linter.unusedSimpArgs false
open Go Go.RowKit Go.Lib
set_option maxRecDepth 100000
set_option maxHeartbeats 1000000 in
theorem base_nan {b : Nat} (h : Nan b) (w : World) : Calls Try.prog 125 #[.float .f64 b] w fun e w' => e = .returned (.bool false) ∧ Below w.heap.size w w' := by
  have o1 : (FloatKind.f64.format.order b b != some .eq) = true := by rw [h.neq]; rfl
  clear h
  go_enter Try.func125, Try.ntmps125
  go_wp2
  all_goals (go_ret; exact ⟨by simp [*], by repeat (first | exact Below.refl _ _ | refine Below.drew ?_)⟩)
set_option maxHeartbeats 1000000 in
theorem base_inf {b : Nat} {s : Bool} (h : Ieee.double.read b = .infinity s) (w : World) : Calls Try.prog 125 #[.float .f64 b] w fun e w' => e = .returned (.bool false) ∧ Below w.heap.size w w' := by
  have o1 : (FloatKind.f64.format.order b b != some .eq) = false := by
    have : FloatKind.f64.format.order b b = some .eq := by
      show (Ieee.double.read b).order (Ieee.double.read b) = _
      rw [h]; cases s <;> rfl
    rw [this]; rfl
  obtain ⟨f, hf⟩ := Classical.skolem.1 (fun w => run_bin_nan 114 b b (inf_sub h) w)
  have hs := fun w => (hf w).1
  have hd := fun w => (hf w).2.2
  have o2 : ∀ w, (FloatKind.f64.format.order (f w).1 0 != some .eq) = true := fun w => by rw [(hf w).2.1.neq]; rfl
  clear h hf
  go_enter Try.func125, Try.ntmps125
  go_wp2
  all_goals (go_ret; exact ⟨by simp [*], by (try simp only [hd]); repeat (first | exact Below.refl _ _ | refine Below.drew ?_)⟩)
set_option maxHeartbeats 1000000 in
theorem base_num {b : Nat} {s : Bool} {m : Nat} {e : Int} (h : NumB b s m e) (w : World) : Calls Try.prog 125 #[.float .f64 b] w fun e w' => e = .returned (.bool (whB b)) ∧ Below w.heap.size w w' := by
  have o1 : (FloatKind.f64.format.order b b != some .eq) = false := by rw [show FloatKind.f64.format.order b b = some .eq from order_refl h.read]; rfl
  have hs := fun w => run_float_arith (P := Try.prog) w .sub 114 .f64 b b 0 h.sub
  have o2 : (FloatKind.f64.format.order 0 0 != some .eq) = false := by decide +kernel
  have o3 : (FloatKind.f64.format.order (fi (inB b)) b == some .eq) = whB b := h.back
  unfold fi at o3
  by_cases hm : midB b = true
  · have c1 := fun w => run_convert_float_int (P := Try.prog) w 114 3 .f64 .i64 b (inB b) (by rw [Try.underlying114]; rfl) Try.underlying3 (h.toInt hm)
    unfold midB at hm
    simp only [Bool.and_eq_true] at hm
    obtain ⟨g1, g2⟩ := hm
    have g1 : (FloatKind.f64.format.order b 14069741636278059008 == some .gt || FloatKind.f64.format.order b 14069741636278059008 == some .eq) = true := g1
    have g2 : (FloatKind.f64.format.order b 4846369599423283200 == some .lt || FloatKind.f64.format.order b 4846369599423283200 == some .eq) = true := g2
    clear h
    generalize inB b = n at *
    generalize whB b = v at *
    go_enter Try.func125, Try.ntmps125
    go_wp2
    all_goals (go_ret; exact ⟨by simp [*], by repeat (first | exact Below.refl _ _ | refine Below.drew ?_)⟩)
  · have hm : midB b = false := by simpa using hm
    have hw := h.large_whole hm
    rw [hw]
    unfold midB at hm
    simp only [Bool.and_eq_false_iff] at hm
    clear h o3
    rcases hm with g1 | g1
    · have g1 : (FloatKind.f64.format.order b 14069741636278059008 == some .gt || FloatKind.f64.format.order b 14069741636278059008 == some .eq) = false := g1
      go_enter Try.func125, Try.ntmps125
      go_wp2
      all_goals (go_ret; exact ⟨by simp [*], by repeat (first | exact Below.refl _ _ | refine Below.drew ?_)⟩)
    · have g1 : (FloatKind.f64.format.order b 4846369599423283200 == some .lt || FloatKind.f64.format.order b 4846369599423283200 == some .eq) = false := g1
      cases g2 : (FloatKind.f64.format.order b 14069741636278059008 == some .gt || FloatKind.f64.format.order b 14069741636278059008 == some .eq)
      all_goals
        go_enter Try.func125, Try.ntmps125
        go_wp2
        all_goals (go_ret; exact ⟨by simp [*], by repeat (first | exact Below.refl _ _ | refine Below.drew ?_)⟩)
theorem base_raw {b : Nat} (hb : b < 18446744073709551616) (w : World) : Calls Try.prog 125 #[.float .f64 b] w fun e w' => e = .returned (.bool (whB b)) ∧ Below w.heap.size w w' := by
  rcases read_cases hb with ⟨s, t, hr⟩ | ⟨s, hr, hi⟩ | ⟨s, m, e, hr⟩
  · have : whB b = false := by unfold whB; rw [hr]
    rw [this]; exact base_nan ⟨s, t, hr⟩ w
  · have : whB b = false := by unfold whB; rw [hr]
    rw [this]; exact base_inf hr w
  · exact base_num hr w
end Go.Proofs.Ytgdhpgjfebinhaa.Ev
