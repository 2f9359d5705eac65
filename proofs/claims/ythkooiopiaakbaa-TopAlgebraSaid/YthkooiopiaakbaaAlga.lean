/- The statement on all ways of calculating: its examples, and whether results meet. -/
import Derived.Test.YthkooiopiaakbaaPlab
import Derived.Test.YthkooiopiaakbaaBald
import Derived.Test.YthkooiopiaakbaaNear
import Derived.Test.YthkooiopiaakbaaConj
import Derived.Test.YthkooiopiaakbaaThra
import Derived.Test.YthkooiopiaakbaaThrb
namespace Go.Proofs.Ythkooiopiaakbaa
open Go.RowKit Go.Lib
attribute [local go_sem] run_store_float run_store_complex
set_option linter.unusedVariables false

def okE (e : Int) : Prop := e = 0 ∨ e = 8 ∨ e = 9

set_option maxHeartbeats 2000000 in
theorem meetsTop_bad {fa fb fc fd : Nat} {r s e f : Int} (he : okE e) (hf : okE f) (h : ¬ (e = 0 ∧ f = 0)) (w : World) :
    Calls Try.prog 69 #[.agg #[.complex .f64 fa fb, .int .i64 r], .agg #[.complex .f64 fc fd, .int .i64 s], .int .i64 e, .int .i64 f] w (Mem (.bool true) w) := by
  rcases he with rfl | rfl | rfl <;> rcases hf with rfl | rfl | rfl
  · exact absurd ⟨rfl, rfl⟩ h
  all_goals (
    clear h
    go_enter Try.func69, Try.ntmps69
    go_wp2_with fail
    have K := (((Hold.start w).new #[.complex .f64 fa fb, .int .i64 r] 27 (n := w.heap.size) (by simp)).new #[.complex .f64 fc fd, .int .i64 s] 27 (n := w.heap.size + 1) (by simp))
    go_ret
    exact ⟨rfl, K.below⟩)

set_option maxHeartbeats 2000000 in
theorem meetsTop_ok {fa fb fc fd : Nat} {r s : Int} (HM : Hid (∀ w, Calls Try.prog 53 #[.agg #[.complex .f64 fa fb, .int .i64 r], .agg #[.complex .f64 fc fd, .int .i64 s]] w (Mem (.tuple #[.bool true, .int .i64 0]) w))) (w : World) :
    Calls Try.prog 69 #[.agg #[.complex .f64 fa fb, .int .i64 r], .agg #[.complex .f64 fc fd, .int .i64 s], .int .i64 0, .int .i64 0] w (Mem (.bool true) w) := by
  go_enter Try.func69, Try.ntmps69
  go_wp2_with fail
  have K := ((Hold.start w).new #[.complex .f64 fa fb, .int .i64 r] 27 (n := w.heap.size) (by simp)).new #[.complex .f64 fc fd, .int .i64 s] 27 (n := w.heap.size + 1) (by simp)
  refine (HM.out _).mono ?_
  rintro e_1 w1 ⟨rfl, hb⟩
  have K' := Hold.mem (K) hb
  clear hb K
  have K := K'
  clear K'
  obtain ⟨_, sz1, h0, h1, _⟩ := id K
  have q0 := h0.cell; have f0 := h0.frozen; have z1_0 := h0.lt
  have q1 := h1.cell; have f1 := h1.frozen; have z1_1 := h1.lt
  clear h0 h1
  go_wp2_with fail
  go_ret
  exact ⟨rfl, (K).below⟩

end Go.Proofs.Ythkooiopiaakbaa
