/- The contract of the reference's CheckBall at balls of whole parts; of the statement's err and two. -/
import Derived.Test.YthkooiopiaakbaaWhob
namespace Go.Proofs.Ythkooiopiaakbaa
open Go.RowKit Go.Lib
attribute [local go_sem] run_store_float run_store_complex
set_option linter.unusedVariables false

theorem fi_min : fi (-67108864) = 13947648045966426112 := by decide +kernel

theorem ord_low {b : Nat} {x : Int} (h : Rp b x) (hx : InF x) : (FloatKind.f64.format.order b 13947648045966426112 == some .lt) = decide (x < -67108864) := by
  rw [← fi_min]; exact order_lt h (Rp_fi _) hx ⟨by decide, by decide⟩
theorem ord_high {b : Nat} {x : Int} (h : Rp b x) (hx : InF x) : (FloatKind.f64.format.order b 4724276009111650304 == some .gt) = decide (67108864 < x) := by
  rw [← fi_max]; exact order_gt h (Rp_fi _) hx ⟨by decide, by decide⟩

set_option maxHeartbeats 1000000 in
theorem ckRef1 {a b : Nat} {r : Int} (k1 : FloatKind.f64.format.order a 13947648045966426112 = some .lt) (W1 : Hid (∀ w, Calls Try.prog 135 #[.float .f64 a] w (fun e w' => e = .returned (.bool true) ∧ w = w'))) (W2 : Hid (∀ w, Calls Try.prog 135 #[.float .f64 b] w (fun e w' => e = .returned (.bool true) ∧ w = w'))) (w : World) :
    Calls Try.prog 70 #[.agg #[.complex .f64 a b, .int .i64 r]] w (Mem (.int .i64 2) w) := by
  have H3 := Lib.hid (fun w => Within_any r 0 67108864 w)
  go_enter Try.func70, Try.ntmps70
  go_wp2_with fail
  go_region_held3 (fun w' => w'.cell? ⟨w.heap.size, 0, none⟩ = some (.complex .f64 a b) ∧ w'.cell? ⟨w.heap.size, 1, none⟩ = some (.int .i64 r)) (simp [*, go_sem]) (fail)
  all_goals (
    go_wp2_with fail
    refine (W1.out _).mono ?_
    rintro e w' ⟨rfl, rfl⟩
    go_wp2_with fail
    refine (W2.out _).mono ?_
    rintro e w' ⟨rfl, rfl⟩
    go_wp2_with fail
    go_ret
    refine ⟨rfl, ?_⟩
    repeat (first | exact Below.refl _ _ | refine Below.drew ?_ | refine below_drewN ?_ _ | refine Below.setCell ?_ (by simp <;> omega) _ | refine Below.alloc ?_ (by first | exact Nat.le_refl _ | (simp <;> omega)) _))

set_option maxHeartbeats 1000000 in
theorem ckRef2 {a b : Nat} {r : Int} (k1 : (FloatKind.f64.format.order a 13947648045966426112 == some .lt) = false) (k2 : FloatKind.f64.format.order a 4724276009111650304 = some .gt) (W1 : Hid (∀ w, Calls Try.prog 135 #[.float .f64 a] w (fun e w' => e = .returned (.bool true) ∧ w = w'))) (W2 : Hid (∀ w, Calls Try.prog 135 #[.float .f64 b] w (fun e w' => e = .returned (.bool true) ∧ w = w'))) (w : World) :
    Calls Try.prog 70 #[.agg #[.complex .f64 a b, .int .i64 r]] w (Mem (.int .i64 2) w) := by
  have H3 := Lib.hid (fun w => Within_any r 0 67108864 w)
  go_enter Try.func70, Try.ntmps70
  go_wp2_with fail
  go_region_held3 (fun w' => w'.cell? ⟨w.heap.size, 0, none⟩ = some (.complex .f64 a b) ∧ w'.cell? ⟨w.heap.size, 1, none⟩ = some (.int .i64 r)) (simp [*, go_sem]) (fail)
  all_goals (
    go_wp2_with fail
    refine (W1.out _).mono ?_
    rintro e w' ⟨rfl, rfl⟩
    go_wp2_with fail
    refine (W2.out _).mono ?_
    rintro e w' ⟨rfl, rfl⟩
    go_wp2_with fail
    go_ret
    refine ⟨rfl, ?_⟩
    repeat (first | exact Below.refl _ _ | refine Below.drew ?_ | refine below_drewN ?_ _ | refine Below.setCell ?_ (by simp <;> omega) _ | refine Below.alloc ?_ (by first | exact Nat.le_refl _ | (simp <;> omega)) _))

set_option maxHeartbeats 1000000 in
theorem ckRef3 {a b : Nat} {r : Int} (k1 : (FloatKind.f64.format.order a 13947648045966426112 == some .lt) = false) (k2 : (FloatKind.f64.format.order a 4724276009111650304 == some .gt) = false) (k3 : FloatKind.f64.format.order b 13947648045966426112 = some .lt) (W1 : Hid (∀ w, Calls Try.prog 135 #[.float .f64 a] w (fun e w' => e = .returned (.bool true) ∧ w = w'))) (W2 : Hid (∀ w, Calls Try.prog 135 #[.float .f64 b] w (fun e w' => e = .returned (.bool true) ∧ w = w'))) (w : World) :
    Calls Try.prog 70 #[.agg #[.complex .f64 a b, .int .i64 r]] w (Mem (.int .i64 2) w) := by
  have H3 := Lib.hid (fun w => Within_any r 0 67108864 w)
  go_enter Try.func70, Try.ntmps70
  go_wp2_with fail
  go_region_held3 (fun w' => w'.cell? ⟨w.heap.size, 0, none⟩ = some (.complex .f64 a b) ∧ w'.cell? ⟨w.heap.size, 1, none⟩ = some (.int .i64 r)) (simp [*, go_sem]) (fail)
  all_goals (
    go_wp2_with fail
    refine (W1.out _).mono ?_
    rintro e w' ⟨rfl, rfl⟩
    go_wp2_with fail
    refine (W2.out _).mono ?_
    rintro e w' ⟨rfl, rfl⟩
    go_wp2_with fail
    go_ret
    refine ⟨rfl, ?_⟩
    repeat (first | exact Below.refl _ _ | refine Below.drew ?_ | refine below_drewN ?_ _ | refine Below.setCell ?_ (by simp <;> omega) _ | refine Below.alloc ?_ (by first | exact Nat.le_refl _ | (simp <;> omega)) _))

set_option maxHeartbeats 1000000 in
theorem ckRef4 {a b : Nat} {r : Int} (k1 : (FloatKind.f64.format.order a 13947648045966426112 == some .lt) = false) (k2 : (FloatKind.f64.format.order a 4724276009111650304 == some .gt) = false) (k3 : (FloatKind.f64.format.order b 13947648045966426112 == some .lt) = false) (k4 : FloatKind.f64.format.order b 4724276009111650304 = some .gt) (W1 : Hid (∀ w, Calls Try.prog 135 #[.float .f64 a] w (fun e w' => e = .returned (.bool true) ∧ w = w'))) (W2 : Hid (∀ w, Calls Try.prog 135 #[.float .f64 b] w (fun e w' => e = .returned (.bool true) ∧ w = w'))) (w : World) :
    Calls Try.prog 70 #[.agg #[.complex .f64 a b, .int .i64 r]] w (Mem (.int .i64 2) w) := by
  have H3 := Lib.hid (fun w => Within_any r 0 67108864 w)
  go_enter Try.func70, Try.ntmps70
  go_wp2_with fail
  go_region_held3 (fun w' => w'.cell? ⟨w.heap.size, 0, none⟩ = some (.complex .f64 a b) ∧ w'.cell? ⟨w.heap.size, 1, none⟩ = some (.int .i64 r)) (simp [*, go_sem]) (fail)
  all_goals (
    go_wp2_with fail
    refine (W1.out _).mono ?_
    rintro e w' ⟨rfl, rfl⟩
    go_wp2_with fail
    refine (W2.out _).mono ?_
    rintro e w' ⟨rfl, rfl⟩
    go_wp2_with fail
    go_ret
    refine ⟨rfl, ?_⟩
    repeat (first | exact Below.refl _ _ | refine Below.drew ?_ | refine below_drewN ?_ _ | refine Below.setCell ?_ (by simp <;> omega) _ | refine Below.alloc ?_ (by first | exact Nat.le_refl _ | (simp <;> omega)) _))

set_option maxHeartbeats 1000000 in
theorem ckRef5 {a b : Nat} {r : Int} (k1 : (FloatKind.f64.format.order a 13947648045966426112 == some .lt) = false) (k2 : (FloatKind.f64.format.order a 4724276009111650304 == some .gt) = false) (k3 : (FloatKind.f64.format.order b 13947648045966426112 == some .lt) = false) (k4 : (FloatKind.f64.format.order b 4724276009111650304 == some .gt) = false) (hr : wiB r 0 67108864 = false) (W1 : Hid (∀ w, Calls Try.prog 135 #[.float .f64 a] w (fun e w' => e = .returned (.bool true) ∧ w = w'))) (W2 : Hid (∀ w, Calls Try.prog 135 #[.float .f64 b] w (fun e w' => e = .returned (.bool true) ∧ w = w'))) (w : World) :
    Calls Try.prog 70 #[.agg #[.complex .f64 a b, .int .i64 r]] w (Mem (.int .i64 2) w) := by
  have H3 := Lib.hid (fun w => Within_any r 0 67108864 w)
  rw [hr] at H3
  clear hr
  go_enter Try.func70, Try.ntmps70
  go_wp2_with fail
  go_region_held3 (fun w' => w'.cell? ⟨w.heap.size, 0, none⟩ = some (.complex .f64 a b) ∧ w'.cell? ⟨w.heap.size, 1, none⟩ = some (.int .i64 r)) (simp [*, go_sem]) (fail)
  all_goals (
    go_wp2_with fail
    refine (W1.out _).mono ?_
    rintro e w' ⟨rfl, rfl⟩
    go_wp2_with fail
    refine (W2.out _).mono ?_
    rintro e w' ⟨rfl, rfl⟩
    go_wp2_with fail
    refine (H3.out _).mono ?_
    rintro e w' ⟨rfl, rfl⟩
    go_wp2_with fail
    go_ret
    refine ⟨rfl, ?_⟩
    repeat (first | exact Below.refl _ _ | refine Below.drew ?_ | refine below_drewN ?_ _ | refine Below.setCell ?_ (by simp <;> omega) _ | refine Below.alloc ?_ (by first | exact Nat.le_refl _ | (simp <;> omega)) _))

set_option maxHeartbeats 1000000 in
theorem ckRef6 {a b : Nat} {r : Int} (k1 : (FloatKind.f64.format.order a 13947648045966426112 == some .lt) = false) (k2 : (FloatKind.f64.format.order a 4724276009111650304 == some .gt) = false) (k3 : (FloatKind.f64.format.order b 13947648045966426112 == some .lt) = false) (k4 : (FloatKind.f64.format.order b 4724276009111650304 == some .gt) = false) (hr : wiB r 0 67108864 = true) (W1 : Hid (∀ w, Calls Try.prog 135 #[.float .f64 a] w (fun e w' => e = .returned (.bool true) ∧ w = w'))) (W2 : Hid (∀ w, Calls Try.prog 135 #[.float .f64 b] w (fun e w' => e = .returned (.bool true) ∧ w = w'))) (w : World) :
    Calls Try.prog 70 #[.agg #[.complex .f64 a b, .int .i64 r]] w (Mem (.int .i64 0) w) := by
  have H3 := Lib.hid (fun w => Within_any r 0 67108864 w)
  rw [hr] at H3
  clear hr
  go_enter Try.func70, Try.ntmps70
  go_wp2_with fail
  go_region_held3 (fun w' => w'.cell? ⟨w.heap.size, 0, none⟩ = some (.complex .f64 a b) ∧ w'.cell? ⟨w.heap.size, 1, none⟩ = some (.int .i64 r)) (simp [*, go_sem]) (fail)
  all_goals (
    go_wp2_with fail
    refine (W1.out _).mono ?_
    rintro e w' ⟨rfl, rfl⟩
    go_wp2_with fail
    refine (W2.out _).mono ?_
    rintro e w' ⟨rfl, rfl⟩
    go_wp2_with fail
    refine (H3.out _).mono ?_
    rintro e w' ⟨rfl, rfl⟩
    go_wp2_with fail
    go_ret
    refine ⟨rfl, ?_⟩
    repeat (first | exact Below.refl _ _ | refine Below.drew ?_ | refine below_drewN ?_ _ | refine Below.setCell ?_ (by simp <;> omega) _ | refine Below.alloc ?_ (by first | exact Nat.le_refl _ | (simp <;> omega)) _))

theorem CheckRef_any {a b : Nat} {x y : Int} (r : Int) (h : Cp a b x y) (hx : InF x) (hy : InF y) (w : World) :
    Calls Try.prog 70 #[.agg #[.complex .f64 a b, .int .i64 r]] w (Mem (.int .i64 (ckB x y r)) w) := by
  have W1 := Lib.hid (fun w => IsWhole_any h.1 hx w)
  have W2 := Lib.hid (fun w => IsWhole_any h.2 hy w)
  have l1 := ord_low h.1 hx
  have l2 := ord_high h.1 hx
  have l3 := ord_low h.2 hy
  have l4 := ord_high h.2 hy
  by_cases c1 : x < -67108864
  · have e : ckB x y r = 2 := by unfold ckB szB; rw [if_neg]; simp; omega
    rw [e]
    exact ckRef1 (eq_of_beq (by rw [l1]; simpa using c1)) W1 W2 w
  by_cases c2 : 67108864 < x
  · have e : ckB x y r = 2 := by unfold ckB szB; rw [if_neg]; simp; omega
    rw [e]
    exact ckRef2 (by rw [l1]; simpa using c1) (eq_of_beq (by rw [l2]; simpa using c2)) W1 W2 w
  by_cases c3 : y < -67108864
  · have e : ckB x y r = 2 := by unfold ckB szB; rw [if_neg]; simp; omega
    rw [e]
    exact ckRef3 (by rw [l1]; simpa using c1) (by rw [l2]; simpa using c2) (eq_of_beq (by rw [l3]; simpa using c3)) W1 W2 w
  by_cases c4 : 67108864 < y
  · have e : ckB x y r = 2 := by unfold ckB szB; rw [if_neg]; simp; omega
    rw [e]
    exact ckRef4 (by rw [l1]; simpa using c1) (by rw [l2]; simpa using c2) (by rw [l3]; simpa using c3) (eq_of_beq (by rw [l4]; simpa using c4)) W1 W2 w
  cases hr : wiB r 0 67108864
  · have e : ckB x y r = 2 := by unfold wiB at hr; unfold ckB; rw [hr]; simp
    rw [e]
    exact ckRef5 (by rw [l1]; simpa using c1) (by rw [l2]; simpa using c2) (by rw [l3]; simpa using c3) (by rw [l4]; simpa using c4) hr W1 W2 w
  · have e : ckB x y r = 0 := by unfold wiB at hr; unfold ckB szB; rw [hr, if_pos]; simp; omega
    rw [e]
    exact ckRef6 (by rw [l1]; simpa using c1) (by rw [l2]; simpa using c2) (by rw [l3]; simpa using c3) (by rw [l4]; simpa using c4) hr W1 W2 w

set_option maxHeartbeats 1000000 in
theorem err_any (x y r : Int) (w : World) : Calls Try.prog 28 #[.agg #[.int .i64 x, .int .i64 y, .int .i64 r]] w (Mem (.int .i64 (ckB (cutI x) (cutI y) r)) w) := by
  have H1 := Lib.hid (fun w => WholeBall_any x y r w)
  have H2 := Lib.hid (fun w => CheckRef_any r ⟨Rp_fi (cutI x), Rp_fi (cutI y)⟩ (cutI_in x) (cutI_in y) w)
  generalize ckB (cutI x) (cutI y) r = c at *
  generalize fi (cutI x) = fx at *
  generalize fi (cutI y) = fy at *
  go_enter Try.func28, Try.ntmps28
  go_wp2_with fail
  refine (H1.out _).mono ?_
  rintro e w1 ⟨rfl, hb⟩
  have hb1 : Below w.heap.size w w1 := Below.via ((Below.refl _ _).alloc (by simp) _) hb
  clear hb
  go_wp2_with fail
  refine (H2.out _).mono ?_
  rintro e w2 ⟨rfl, hb⟩
  have hb2 : Below w.heap.size w w2 := Below.via hb1 hb
  clear hb
  go_wp2_with fail
  go_ret
  exact ⟨rfl, by repeat (first | exact hb2 | refine Below.drew ?_ | refine below_drewN ?_ _)⟩

/-- The first error of two balls. -/
def twoE (x y r u v s : Int) : Int := if ckB (cutI x) (cutI y) r = 0 then ckB (cutI u) (cutI v) s else ckB (cutI x) (cutI y) r

set_option maxHeartbeats 1000000 in
theorem two_any (x y r u v s : Int) (w : World) : Calls Try.prog 38 #[.agg #[.int .i64 x, .int .i64 y, .int .i64 r], .agg #[.int .i64 u, .int .i64 v, .int .i64 s]] w (Mem (.int .i64 (twoE x y r u v s)) w) := by
  have H1 := Lib.hid (fun w => err_any x y r w)
  have H2 := Lib.hid (fun w => err_any u v s w)
  unfold twoE
  generalize ckB (cutI x) (cutI y) r = c at *
  generalize ckB (cutI u) (cutI v) s = d at *
  by_cases hc : c = 0
  · subst hc
    rw [if_pos rfl]
    go_enter Try.func38, Try.ntmps38
    go_wp2_with fail
    refine (H1.out _).mono ?_
    rintro e w1 ⟨rfl, hb⟩
    have a1 : At w1 (w.heap.size + 1) #[.int .i64 u, .int .i64 v, .int .i64 s] := At.below (At.new' _ _ _ (by simp)) hb
    have hb1 : Below w.heap.size w w1 := Below.via (((Below.refl _ _).alloc (by simp) _).alloc (by simp) _) hb
    have q1 := a1.cell; have z1 := a1.lt
    clear hb a1
    go_wp2_with fail
    refine (H2.out _).mono ?_
    rintro e w2 ⟨rfl, hb⟩
    have hb2 : Below w.heap.size w w2 := Below.via hb1 hb
    clear hb
    go_wp2_with fail
    go_ret
    exact ⟨rfl, by repeat (first | exact hb2 | refine Below.drew ?_ | refine below_drewN ?_ _)⟩
  · rw [if_neg hc]
    have h1 : (c != 0) = true := by simpa using hc
    have h2 : (c == 0) = false := by simpa using hc
    clear hc
    go_enter Try.func38, Try.ntmps38
    go_wp2_with fail
    refine (H1.out _).mono ?_
    rintro e w1 ⟨rfl, hb⟩
    have hb1 : Below w.heap.size w w1 := Below.via (((Below.refl _ _).alloc (by simp) _).alloc (by simp) _) hb
    clear hb
    go_wp2_with fail
    go_ret
    exact ⟨rfl, by repeat (first | exact hb1 | refine Below.drew ?_ | refine below_drewN ?_ _)⟩

end Go.Proofs.Ythkooiopiaakbaa
