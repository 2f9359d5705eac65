/- Meets, Inside and Contains of package ball. -/
import Derived.Test.YthkooiopiaakbaaOneb
import Derived.Test.YthkooiopiaakbaaRefa
namespace Go.Proofs.Ythkooiopiaakbaa
open Go.RowKit Go.Lib
attribute [local go_sem] run_store_float run_store_complex
set_option linter.unusedVariables false

set_option maxRecDepth 100000 in
set_option maxHeartbeats 2000000 in
theorem Meets1_walk {a b c d : Nat} {r s : Int} {v : Bool} (hr : Sm 67108864 r) (hs : Sm 67108864 s) (HN : Hid (∀ w, Calls Try.prog 120 #[.complex .f64 a b, .complex .f64 c d, .int .i64 (r + s)] w (Mem (.bool v) w))) (w : World) :
    Calls Try.prog 123 #[.agg #[.complex .f64 a b, .int .i64 r], .agg #[.complex .f64 c d, .int .i64 s]] w (Mem (bovV v 0) w) := by
  unfold bovV
  obtain ⟨r1, r2⟩ := hr
  obtain ⟨s1, s2⟩ := hs
  have v1 : IntKind.i64.wrap (r + s) = r + s := IntWalk.i64_in _ (by omega)
  go_enter Try.func123, Try.ntmps123
  go_wp2_with fail
  have K := ((Hold.start w).new #[.complex .f64 a b, .int .i64 r] 95 (n := w.heap.size) (by simp)).new #[.complex .f64 c d, .int .i64 s] 95 (n := w.heap.size + 1) (by simp)
  obtain ⟨_, sz1, h0, h1, _⟩ := id K
  have q0 := h0.cell; have f0 := h0.frozen; have z1_0 := h0.lt
  have q1 := h1.cell; have f1 := h1.frozen; have z1_1 := h1.lt
  clear h0 h1
  go_wp2_with fail
  refine (HN.out _).mono ?_
  rintro e_1 w1 ⟨rfl, hb⟩
  have K' := Hold.mem (K) hb
  clear hb K
  have K := K'
  clear K'
  clear q0 f0 q1 f1
  obtain ⟨_, sz2, h0, h1, _⟩ := id K
  have q0 := h0.cell; have f0 := h0.frozen; have z2_0 := h0.lt
  have q1 := h1.cell; have f1 := h1.frozen; have z2_1 := h1.lt
  clear h0 h1
  go_wp2_with fail
  exact bodyPost_ret (v := .tuple #[.bool v, .int .i64 0]) (by simp [results, Try.results123, go_sem, *]) rfl ⟨rfl, (K).below⟩

set_option maxRecDepth 100000 in
set_option maxHeartbeats 2000000 in
theorem Inside1_walk {a b c d : Nat} {r s : Int} {v : Bool} (hr : Sm 67108864 r) (hs : Sm 67108864 s) (h : r ≤ s) (HN : Hid (∀ w, Calls Try.prog 120 #[.complex .f64 a b, .complex .f64 c d, .int .i64 (s - r)] w (Mem (.bool v) w))) (w : World) :
    Calls Try.prog 124 #[.agg #[.complex .f64 a b, .int .i64 r], .agg #[.complex .f64 c d, .int .i64 s]] w (Mem (bovV v 0) w) := by
  unfold bovV
  obtain ⟨r1, r2⟩ := hr
  obtain ⟨s1, s2⟩ := hs
  have v1 : IntKind.i64.wrap (s - r) = s - r := IntWalk.i64_in _ (by omega)
  have g1 : decide (0 ≤ s - r) = true := by simp; omega
  go_enter Try.func124, Try.ntmps124
  go_wp2_with fail
  have K := ((Hold.start w).new #[.complex .f64 a b, .int .i64 r] 95 (n := w.heap.size) (by simp)).new #[.complex .f64 c d, .int .i64 s] 95 (n := w.heap.size + 1) (by simp)
  obtain ⟨_, sz1, h0, h1, _⟩ := id K
  have q0 := h0.cell; have f0 := h0.frozen; have z1_0 := h0.lt
  have q1 := h1.cell; have f1 := h1.frozen; have z1_1 := h1.lt
  clear h0 h1
  go_wp2_with fail
  refine (HN.out _).mono ?_
  rintro e_1 w1 ⟨rfl, hb⟩
  have K' := Hold.mem (K) hb
  clear hb K
  have K := K'
  clear K'
  clear q0 f0 q1 f1
  obtain ⟨_, sz2, h0, h1, _⟩ := id K
  have q0 := h0.cell; have f0 := h0.frozen; have z2_0 := h0.lt
  have q1 := h1.cell; have f1 := h1.frozen; have z2_1 := h1.lt
  clear h0 h1
  go_wp2_with fail
  exact bodyPost_ret (v := .tuple #[.bool v, .int .i64 0]) (by simp [results, Try.results124, go_sem, *]) rfl ⟨rfl, (K).below⟩

set_option maxRecDepth 100000 in
set_option maxHeartbeats 2000000 in
theorem Inside1_no {a b c d : Nat} {r s : Int} {v : Bool} (hr : Sm 67108864 r) (hs : Sm 67108864 s) (h : s < r) (w : World) :
    Calls Try.prog 124 #[.agg #[.complex .f64 a b, .int .i64 r], .agg #[.complex .f64 c d, .int .i64 s]] w (Mem (bovV false 0) w) := by
  unfold bovV
  obtain ⟨r1, r2⟩ := hr
  obtain ⟨s1, s2⟩ := hs
  have v1 : IntKind.i64.wrap (s - r) = s - r := IntWalk.i64_in _ (by omega)
  have g1 : decide (0 ≤ s - r) = false := by simp; omega
  go_enter Try.func124, Try.ntmps124
  go_wp2_with fail
  have K := ((Hold.start w).new #[.complex .f64 a b, .int .i64 r] 95 (n := w.heap.size) (by simp)).new #[.complex .f64 c d, .int .i64 s] 95 (n := w.heap.size + 1) (by simp)
  obtain ⟨_, sz1, h0, h1, _⟩ := id K
  have q0 := h0.cell; have f0 := h0.frozen; have z1_0 := h0.lt
  have q1 := h1.cell; have f1 := h1.frozen; have z1_1 := h1.lt
  clear h0 h1
  go_wp2_with fail
  exact bodyPost_ret (v := .tuple #[.bool false, .int .i64 0]) (by simp [results, Try.results124, go_sem, *]) rfl ⟨rfl, (K).below⟩

set_option maxRecDepth 100000 in
set_option maxHeartbeats 2000000 in
theorem Meets_of {a b c d : Nat} {r s e : Int} {v : Bool}
    (HK : Hid (∀ W, Calls Try.prog 122 #[.agg #[.complex .f64 a b, .int .i64 r], .agg #[.complex .f64 c d, .int .i64 s], .func (.func 123) #[] #[]] W (Mem (bovV v e) W))) (w : World) :
    Calls Try.prog 53 #[.agg #[.complex .f64 a b, .int .i64 r], .agg #[.complex .f64 c d, .int .i64 s]] w (Mem (bovV v e) w) := by
  unfold bovV at *
  go_enter Try.func53, Try.ntmps53
  go_wp2_with fail
  have K := ((Hold.start w).new #[.complex .f64 a b, .int .i64 r] 27 (n := w.heap.size) (by simp)).new #[.complex .f64 c d, .int .i64 s] 27 (n := w.heap.size + 1) (by simp)
  refine (HK.out _).mono ?_
  rintro e_1 w1 ⟨rfl, hb⟩
  have K' := Hold.mem (K) hb
  clear hb K
  have K := K'
  clear K'
  obtain ⟨_, sz1, h0, h1, _⟩ := id K
  have q0 := h0.cell; have f0 := h0.frozen; have z1_0 := h0.lt
  have q1 := h1.cell; have f1 := h1.frozen; have z1_1 := h1.lt
  clear h0 h1
  go_wp2_with fail
  exact bodyPost_ret (v := .tuple #[.bool v, .int .i64 e]) (by simp [results, Try.results53, go_sem, *]) rfl ⟨rfl, (K).below⟩

set_option maxRecDepth 100000 in
set_option maxHeartbeats 2000000 in
theorem Inside_of {a b c d : Nat} {r s e : Int} {v : Bool}
    (HK : Hid (∀ W, Calls Try.prog 122 #[.agg #[.complex .f64 a b, .int .i64 r], .agg #[.complex .f64 c d, .int .i64 s], .func (.func 124) #[] #[]] W (Mem (bovV v e) W))) (w : World) :
    Calls Try.prog 54 #[.agg #[.complex .f64 a b, .int .i64 r], .agg #[.complex .f64 c d, .int .i64 s]] w (Mem (bovV v e) w) := by
  unfold bovV at *
  go_enter Try.func54, Try.ntmps54
  go_wp2_with fail
  have K := ((Hold.start w).new #[.complex .f64 a b, .int .i64 r] 27 (n := w.heap.size) (by simp)).new #[.complex .f64 c d, .int .i64 s] 27 (n := w.heap.size + 1) (by simp)
  refine (HK.out _).mono ?_
  rintro e_1 w1 ⟨rfl, hb⟩
  have K' := Hold.mem (K) hb
  clear hb K
  have K := K'
  clear K'
  obtain ⟨_, sz1, h0, h1, _⟩ := id K
  have q0 := h0.cell; have f0 := h0.frozen; have z1_0 := h0.lt
  have q1 := h1.cell; have f1 := h1.frozen; have z1_1 := h1.lt
  clear h0 h1
  go_wp2_with fail
  exact bodyPost_ret (v := .tuple #[.bool v, .int .i64 e]) (by simp [results, Try.results54, go_sem, *]) rfl ⟨rfl, (K).below⟩

/-- What Meets and Inside answer. -/
def meetsB (x y r u v s : Int) : Bool := decide (sq2 (x - u) (y - v) ≤ (r + s) * (r + s))
def insideB (x y r u v s : Int) : Bool := decide (r ≤ s) && decide (sq2 (x - u) (y - v) ≤ (s - r) * (s - r))

theorem Meets_any {a b c d : Nat} {x y u v : Int} (r s : Int) (h : Cp a b x y) (hx : InF x) (hy : InF y) (g : Cp c d u v) (hu : InF u) (hv : InF v) (w : World) :
    Calls Try.prog 53 #[.agg #[.complex .f64 a b, .int .i64 r], .agg #[.complex .f64 c d, .int .i64 s]] w (Mem (if ckB x y r = 0 ∧ ckB u v s = 0 then bovV (meetsB x y r u v s) 0 else bovV false 2) w) := by
  rcases ckB_cases x y r with h1 | h1
  · rcases ckB_cases u v s with h2 | h2
    · rw [if_pos ⟨h1, h2⟩]
      obtain ⟨⟨x1, x2⟩, ⟨y1, y2⟩, r1, r2⟩ := ckB_ok h1
      obtain ⟨⟨u1, u2⟩, ⟨v1, v2⟩, s1, s2⟩ := ckB_ok h2
      have HN := fun w => near_any (r := r + s) h g ⟨by omega, by omega⟩ ⟨by omega, by omega⟩ ⟨by omega, by omega⟩ ⟨by omega, by omega⟩ ⟨by omega, by omega⟩ w
      exact Meets_of (Lib.hid fun W => ofTwoBool_ok r s (Lib.hid (ent_of Try.func123 (by kernel_rfl) rfl)) h hx hy h1 g hu hv h2 (fun W => Meets1_walk ⟨by omega, by omega⟩ ⟨by omega, by omega⟩ (Lib.hid HN) W) W) w
    · rw [if_neg (by omega)]
      exact Meets_of (Lib.hid fun W => ofTwoBool_bad2 r s h hx hy h1 g hu hv h2 W) w
  · rw [if_neg (by omega)]
    exact Meets_of (Lib.hid fun W => ofTwoBool_bad1 r s h hx hy h1 W) w

theorem Inside_any {a b c d : Nat} {x y u v : Int} (r s : Int) (h : Cp a b x y) (hx : InF x) (hy : InF y) (g : Cp c d u v) (hu : InF u) (hv : InF v) (w : World) :
    Calls Try.prog 54 #[.agg #[.complex .f64 a b, .int .i64 r], .agg #[.complex .f64 c d, .int .i64 s]] w (Mem (if ckB x y r = 0 ∧ ckB u v s = 0 then bovV (insideB x y r u v s) 0 else bovV false 2) w) := by
  rcases ckB_cases x y r with h1 | h1
  · rcases ckB_cases u v s with h2 | h2
    · rw [if_pos ⟨h1, h2⟩]
      obtain ⟨⟨x1, x2⟩, ⟨y1, y2⟩, r1, r2⟩ := ckB_ok h1
      obtain ⟨⟨u1, u2⟩, ⟨v1, v2⟩, s1, s2⟩ := ckB_ok h2
      unfold insideB
      by_cases hle : r ≤ s
      · rw [decide_eq_true hle, Bool.true_and]
        have HN := fun w => near_any (r := s - r) h g ⟨by omega, by omega⟩ ⟨by omega, by omega⟩ ⟨by omega, by omega⟩ ⟨by omega, by omega⟩ ⟨by omega, by omega⟩ w
        exact Inside_of (Lib.hid fun W => ofTwoBool_ok r s (Lib.hid (ent_of Try.func124 (by kernel_rfl) rfl)) h hx hy h1 g hu hv h2 (fun W => Inside1_walk ⟨by omega, by omega⟩ ⟨by omega, by omega⟩ hle (Lib.hid HN) W) W) w
      · rw [decide_eq_false hle, Bool.false_and]
        exact Inside_of (Lib.hid fun W => ofTwoBool_ok r s (Lib.hid (ent_of Try.func124 (by kernel_rfl) rfl)) h hx hy h1 g hu hv h2 (fun W => Inside1_no (v := true) ⟨by omega, by omega⟩ ⟨by omega, by omega⟩ (by omega) W) W) w
    · rw [if_neg (by omega)]
      exact Inside_of (Lib.hid fun W => ofTwoBool_bad2 r s h hx hy h1 g hu hv h2 W) w
  · rw [if_neg (by omega)]
    exact Inside_of (Lib.hid fun W => ofTwoBool_bad1 r s h hx hy h1 W) w

end Go.Proofs.Ythkooiopiaakbaa
