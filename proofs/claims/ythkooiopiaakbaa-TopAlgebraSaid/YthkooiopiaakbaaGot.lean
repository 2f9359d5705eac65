/- Results of the calculations, and the numbers that they hold. -/
import Derived.Test.YthkooiopiaakbaaRes
import Derived.Test.YthkooiopiaakbaaQuoi
import Derived.Test.YthkooiopiaakbaaAlga
namespace Go.Proofs.Ythkooiopiaakbaa
open Go.RowKit Go.Lib
set_option linter.unusedVariables false

/-- A result: an error that says nothing, or a ball that holds (P, Q) / D. -/
def Got (a b : Nat) (R e : Int) (P Q D : Int) : Prop := okE e ∧ (e = 0 → 0 < D ∧ ∃ X Y, a = fi X ∧ b = fi Y ∧ ckB X Y R = 0 ∧ Hlds X Y R P Q D)

theorem got_res {X Y R P Q D : Int} (hR : 0 ≤ R) (hD : 0 < D) (h : Hlds X Y R P Q D) : ∃ a b R' e, resB X Y R = balV a b R' e ∧ Got a b R' e P Q D := by
  rcases res_split (x := X) (y := Y) hR with ⟨h1, h2⟩ | h1
  · exact ⟨_, _, _, _, h1, .inl rfl, fun _ => ⟨hD, X, Y, rfl, rfl, h2, h⟩⟩
  · exact ⟨_, _, _, _, h1, .inr (.inl rfl), fun e => by cases e⟩

theorem inF_of {x y r : Int} (h : ckB x y r = 0) : InF x ∧ InF y := by
  obtain ⟨⟨x1, x2⟩, ⟨y1, y2⟩, r1, r2⟩ := ckB_ok h
  exact ⟨⟨by omega, by omega⟩, ⟨by omega, by omega⟩⟩
theorem cp_fi (x y : Int) : Cp (fi x) (fi y) x y := ⟨Rp_fi _, Rp_fi _⟩

theorem times_got {x y r u v s P Q D P' Q' D' : Int} (hc : ckB x y r = 0) (gc : ckB u v s = 0) (hD : 0 < D) (hD' : 0 < D') (h : Hlds x y r P Q D) (h' : Hlds u v s P' Q' D') : ∃ a b R e, (∀ w, Calls Try.prog 37 #[.agg #[.complex .f64 (fi x) (fi y), .int .i64 r], .agg #[.complex .f64 (fi u) (fi v), .int .i64 s]] w (Mem (balV a b R e) w)) ∧ Got a b R e (P * P' - Q * Q') (P * Q' + Q * P') (D * D' * 1048576) := by
  have hT := fun w => Times_any r s (cp_fi x y) (inF_of hc).1 (inF_of hc).2 (cp_fi u v) (inF_of gc).1 (inF_of gc).2 w
  rw [if_pos ⟨hc, gc⟩] at hT
  obtain ⟨a, b, R, e, h1, h2⟩ := got_res (prodR_nn hc gc) (Int.mul_pos (Int.mul_pos hD hD') (by decide)) (holds_prod hc gc (by omega) (by omega) h h')
  rw [h1] at hT
  exact ⟨a, b, R, e, hT, h2⟩
theorem plus_got {x y r u v s P Q D P' Q' D' : Int} (hc : ckB x y r = 0) (gc : ckB u v s = 0) (hD : 0 < D) (hD' : 0 < D') (h : Hlds x y r P Q D) (h' : Hlds u v s P' Q' D') : ∃ a b R e, (∀ w, Calls Try.prog 24 #[.agg #[.complex .f64 (fi x) (fi y), .int .i64 r], .agg #[.complex .f64 (fi u) (fi v), .int .i64 s]] w (Mem (balV a b R e) w)) ∧ Got a b R e (D' * P + D * P') (D' * Q + D * Q') (D * D') := by
  have hT := fun w => Plus_any r s (cp_fi x y) (inF_of hc).1 (inF_of hc).2 (cp_fi u v) (inF_of gc).1 (inF_of gc).2 w
  rw [if_pos ⟨hc, gc⟩] at hT
  have r1 := (ckB_ok hc).2.2.1
  have s1 := (ckB_ok gc).2.2.1
  obtain ⟨a, b, R, e, h1, h2⟩ := got_res (by omega) (Int.mul_pos hD hD') (Hlds.plus (by omega) (by omega) h h')
  rw [h1] at hT
  exact ⟨a, b, R, e, hT, h2⟩
theorem minus_got {x y r u v s P Q D P' Q' D' : Int} (hc : ckB x y r = 0) (gc : ckB u v s = 0) (hD : 0 < D) (hD' : 0 < D') (h : Hlds x y r P Q D) (h' : Hlds u v s P' Q' D') : ∃ a b R e, (∀ w, Calls Try.prog 25 #[.agg #[.complex .f64 (fi x) (fi y), .int .i64 r], .agg #[.complex .f64 (fi u) (fi v), .int .i64 s]] w (Mem (balV a b R e) w)) ∧ Got a b R e (D' * P - D * P') (D' * Q - D * Q') (D * D') := by
  have hT := fun w => Minus_any r s (cp_fi x y) (inF_of hc).1 (inF_of hc).2 (cp_fi u v) (inF_of gc).1 (inF_of gc).2 w
  rw [if_pos ⟨hc, gc⟩] at hT
  have r1 := (ckB_ok hc).2.2.1
  have s1 := (ckB_ok gc).2.2.1
  obtain ⟨a, b, R, e, h1, h2⟩ := got_res (by omega) (Int.mul_pos hD hD') (Hlds.minus (by omega) (by omega) h h')
  rw [h1] at hT
  exact ⟨a, b, R, e, hT, h2⟩
theorem quot_got {x y r u v s P Q D P' Q' D' : Int} (hc : ckB x y r = 0) (gc : ckB u v s = 0) (hD : 0 < D) (hD' : 0 < D') (h : Hlds x y r P Q D) (h' : Hlds u v s P' Q' D') : ∃ a b R e, (∀ w, Calls Try.prog 41 #[.agg #[.complex .f64 (fi x) (fi y), .int .i64 r], .agg #[.complex .f64 (fi u) (fi v), .int .i64 s]] w (Mem (balV a b R e) w)) ∧ Got a b R e (1048576 * D' * (P * P' + Q * Q')) (1048576 * D' * (Q * P' - P * Q')) (D * (P' * P' + Q' * Q')) := by
  have hT := fun w => Quotient_all r s (cp_fi x y) (inF_of hc).1 (inF_of hc).2 (cp_fi u v) (inF_of gc).1 (inF_of gc).2 w
  rw [if_pos ⟨hc, gc⟩] at hT
  unfold quoV at hT
  by_cases hz : dn u v - s ≤ 0
  · rw [if_pos hz] at hT
    exact ⟨_, _, _, _, hT, .inr (.inr rfl), fun e => by cases e⟩
  · rw [if_neg hz] at hT
    obtain ⟨hu, hv, s1, s2⟩ := ckB_ok gc
    have hf := far hD' h' (dn_sqv (big hu) (big hv)).1 (by omega) (dn_sqv (big hu) (big hv)).2
    have hn : 0 < P' * P' + Q' * Q' := Int.lt_of_lt_of_le (Int.mul_pos (Int.mul_pos hD' (by omega)) (Int.mul_pos hD' (by omega))) hf
    obtain ⟨a, b, R, e, h1, h2⟩ := got_res (quoR_nn hc gc (by omega)) (Int.mul_pos hD hn) (holds_quo hc gc (by omega) hD hD' h h')
    rw [h1] at hT
    exact ⟨a, b, R, e, hT, h2⟩

theorem meets_got {a b c d : Nat} {R S e f P Q D P' Q' D' : Int} (h : Got a b R e P Q D) (h' : Got c d S f P' Q' D') (hx : D' * P = D * P') (hy : D' * Q = D * Q') (w : World) :
    Calls Try.prog 69 #[.agg #[.complex .f64 a b, .int .i64 R], .agg #[.complex .f64 c d, .int .i64 S], .int .i64 e, .int .i64 f] w (Mem (.bool true) w) := by
  by_cases hz : e = 0 ∧ f = 0
  · obtain ⟨rfl, rfl⟩ := hz
    obtain ⟨hD, X, Y, rfl, rfl, hc, hX⟩ := h.2 rfl
    obtain ⟨hD', U, V, rfl, rfl, gc, hU⟩ := h'.2 rfl
    refine meetsTop_ok (Lib.hid fun w => ?_) w
    have := Meets_any R S (cp_fi X Y) (inF_of hc).1 (inF_of hc).2 (cp_fi U V) (inF_of gc).1 (inF_of gc).2 w
    have hm : meetsB X Y R U V S = true := by unfold meetsB sq2; exact decide_eq_true (Hlds.meet hD hD' hX hU hx hy)
    rw [if_pos ⟨hc, gc⟩, hm] at this
    exact this
  · exact meetsTop_bad h.1 h'.1 hz w

/-- The product of two balls near to 0. -/
theorem times_ok {x y r u v s P Q D P' Q' D' : Int} (hx : Sm 4194304 x) (hy : Sm 4194304 y) (hu : Sm 4194304 u) (hv : Sm 4194304 v) (r1 : 0 ≤ r) (r2 : r ≤ 1000) (s1 : 0 ≤ s) (s2 : s ≤ 1000) (hD : 0 < D) (hD' : 0 < D') (h : Hlds x y r P Q D) (h' : Hlds u v s P' Q' D') :
    ∃ X Y R, ckB X Y R = 0 ∧ Sm 67108864 X ∧ Hlds X Y R (P * P' - Q * Q') (P * Q' + Q * P') (D * D' * 1048576) ∧ ∀ w, Calls Try.prog 37 #[.agg #[.complex .f64 (fi x) (fi y), .int .i64 r], .agg #[.complex .f64 (fi u) (fi v), .int .i64 s]] w (Mem (balV (fi X) (fi Y) R 0) w) := by
  have hc : ckB x y r = 0 := ck_small ⟨by have := hx.1; omega, by have := hx.2; omega⟩ ⟨by have := hy.1; omega, by have := hy.2; omega⟩ r1 (by omega)
  have gc : ckB u v s = 0 := ck_small ⟨by have := hu.1; omega, by have := hu.2; omega⟩ ⟨by have := hv.1; omega, by have := hv.2; omega⟩ s1 (by omega)
  obtain ⟨m1, m2, m3⟩ := prod_near2 (x := x) (y := y) (r := r) (u := u) (v := v) (s := s) ⟨by have := hx.1; omega, by have := hx.2; omega⟩ ⟨by have := hy.1; omega, by have := hy.2; omega⟩ hu hv r1 (by omega) s1 (by omega)
  obtain ⟨f1, f2⟩ := res_small m1 m2 (prodR_nn hc gc) m3
  refine ⟨_, _, _, f2, m1, holds_prod hc gc (by omega) (by omega) h h', fun w => ?_⟩
  have := Times_any r s (cp_fi x y) (inF_of hc).1 (inF_of hc).2 (cp_fi u v) (inF_of gc).1 (inF_of gc).2 w
  rw [if_pos ⟨hc, gc⟩, f1] at this
  exact this
end Go.Proofs.Ythkooiopiaakbaa
