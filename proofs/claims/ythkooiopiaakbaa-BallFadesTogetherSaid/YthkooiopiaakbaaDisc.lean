/- The contracts of discs: scaled, rounded, a disc as a result. -/
import Derived.Test.YthkooiopiaakbaaCentre
import Derived.Deep.RegionHeld3
import Derived.StillTailTactics
namespace Go.Proofs.Ythkooiopiaakbaa
open Go.RowKit Go.Lib
attribute [local go_sem] run_store_float run_store_complex

def szB (n m : Int) : Bool := decide (-m ≤ n) && decide (n ≤ m)

set_option maxHeartbeats 400000 in
theorem sized_any (n m : Int) (hm : 0 ≤ m) (hm' : m ≤ 4611686018427387904) (w : World) : Calls Try.prog 93 #[.int .i64 n, .int .i64 m] w fun e w' => e = .returned (.bool (szB n m)) ∧ w = w' := by
  by_cases h1 : -m ≤ n
  · go_enter Try.func93, Try.ntmps93
    go_wp2
    go_ret
    exact ⟨by simp [szB, h1], rfl⟩
  · go_enter Try.func93, Try.ntmps93
    go_wp2
    go_ret
    have e : szB n m = false := by unfold szB; rw [decide_eq_false (by omega)]; rfl
    rw [e]
    exact ⟨rfl, rfl⟩

set_option maxHeartbeats 400000 in
theorem rounded_any (a b : Nat) (ex : Bool) (r : Int) (hr0 : 0 ≤ r) (hr : r ≤ 4611686018427387904) (w : World) :
    Calls Try.prog 78 #[.complex .f64 a b, .bool ex, .int .i64 r] w (Mem (.agg #[.complex .f64 a b, .int .i64 (if ex then r else r + 1)]) w) := by
  cases ex
  · go_enter Try.func78, Try.ntmps78
    go_wp2
    refine bodyPost_ret (v := .agg #[.complex .f64 a b, .int .i64 (r + 1)]) (by simp [results, Try.results78, go_sem]) rfl ⟨rfl, ?_⟩
    exact (Below.refl _ _).alloc (Nat.le_refl _) _
  · go_enter Try.func78, Try.ntmps78
    go_wp2
    refine bodyPost_ret (v := .agg #[.complex .f64 a b, .int .i64 r]) (by simp [results, Try.results78, go_sem]) rfl ⟨rfl, ?_⟩
    exact (Below.refl _ _).alloc (Nat.le_refl _) _

set_option maxHeartbeats 1000000 in
theorem scaled_any {a b : Nat} {x y n d : Int} (h : Cp a b x y) (hx : InF x) (hy : InF y) (h1 : DvIn x n d) (h2 : DvIn y n d) (w : World) :
    Calls Try.prog 77 #[.complex .f64 a b, .int .i64 n, .int .i64 d] w
      (Mem (.tuple #[.complex .f64 (fi (rdiv (x * n) d)) (fi (rdiv (y * n) d)), .bool (wholeB (x * n) d && wholeB (y * n) d)]) w) := by
  have HP := Lib.hid (fun w => parts_any h hx hy w)
  have H1 := Lib.hid (fun w => nearest_any x n d (Lib.hid h1) w)
  have H2 := Lib.hid (fun w => nearest_any y n d (Lib.hid h2) w)
  clear h hx hy h1 h2
  have i0 : ∀ w, (Instr.index 58 (.agg #[.int .i64 x, .int .i64 y]) (.int .i64 0)).run Try.prog w = .ok (.int .i64 x) w := fun _ => by kernel_rfl
  have i1 : ∀ w, (Instr.index 58 (.agg #[.int .i64 x, .int .i64 y]) (.int .i64 1)).run Try.prog w = .ok (.int .i64 y) w := fun _ => by kernel_rfl
  generalize wholeB (x * n) d = e1 at *
  generalize wholeB (y * n) d = e2 at *
  generalize rdiv (x * n) d = q1 at *
  generalize rdiv (y * n) d = q2 at *
  cases e1
  · go_enter Try.func77, Try.ntmps77
    go_wp2_with fail
    refine (HP.out _).mono ?_
    rintro e w1 ⟨rfl, hb⟩
    go_wp2_with fail
    refine wp_loop_rounds 3 ?_
    rw [rounds_succ]
    go_wp2_with fail
    refine (H1.out _).mono ?_
    rintro e w2 ⟨rfl, k1, rfl⟩
    go_wp2_with fail
    rw [rounds_succ]
    go_wp2_with fail
    refine (H2.out _).mono ?_
    rintro e w3 ⟨rfl, k2, rfl⟩
    go_wp2_with fail
    rw [rounds_succ]
    go_wp2_with fail
    refine (centreAt_any q1 q2 _).mono ?_
    rintro e w4 ⟨rfl, rfl⟩
    go_wp2_with fail
    go_ret2
    refine ⟨rfl, ?_⟩
    repeat (first | exact hb | refine below_drewN ?_ _ | refine Below.setCell ?_ (by have := hb.size; simp; omega) _ | refine Below.alloc ?_ hb.size _)
  · go_enter Try.func77, Try.ntmps77
    go_wp2_with fail
    refine (HP.out _).mono ?_
    rintro e w1 ⟨rfl, hb⟩
    go_wp2_with fail
    refine wp_loop_rounds 3 ?_
    rw [rounds_succ]
    go_wp2_with fail
    refine (H1.out _).mono ?_
    rintro e w2 ⟨rfl, k1, rfl⟩
    go_wp2_with fail
    rw [rounds_succ]
    go_wp2_with fail
    refine (H2.out _).mono ?_
    rintro e w3 ⟨rfl, k2, rfl⟩
    go_wp2_with fail
    rw [rounds_succ]
    go_wp2_with fail
    refine (centreAt_any q1 q2 _).mono ?_
    rintro e w4 ⟨rfl, rfl⟩
    go_wp2_with fail
    go_ret2
    refine ⟨rfl, ?_⟩
    repeat (first | exact hb | refine below_drewN ?_ _ | refine Below.setCell ?_ (by have := hb.size; simp; omega) _ | refine Below.alloc ?_ hb.size _)

/-- Is it the centre and the radius of a ball? -/
def okB (x y r : Int) : Bool := szB x 67108864 && szB y 67108864 && decide (r ≤ 67108864)

/-- A ball as a result, ErrLarge if it is none. -/
def resB (x y r : Int) : Value := if okB x y r then .tuple #[.agg #[.complex .f64 (fi x) (fi y), .int .i64 r], .int .i64 0] else .tuple #[.agg #[.complex .f64 0 0, .int .i64 0], .int .i64 8]

set_option maxHeartbeats 1000000 in
theorem discBall_any {a b : Nat} {x y : Int} (r : Int) (h : Cp a b x y) (hx : InF x) (hy : InF y) (w : World) :
    Calls Try.prog 75 #[.agg #[.complex .f64 a b, .int .i64 r]] w (Mem (resB x y r) w) := by
  have HP := Lib.hid (fun w => parts_any h hx hy w)
  have H1 := Lib.hid (fun w => sized_any x 67108864 (by decide) (by decide) w)
  have H2 := Lib.hid (fun w => sized_any y 67108864 (by decide) (by decide) w)
  clear h hx hy
  have hok : Hid (okB x y r = (szB x 67108864 && szB y 67108864 && decide (r ≤ 67108864))) := rfl
  unfold resB
  generalize okB x y r = ok at *
  generalize szB x 67108864 = e1 at *
  generalize szB y 67108864 = e2 at *
  cases e1
  · have : ok = false := by rw [hok.out]; rfl
    subst this
    clear hok
    go_enter Try.func75, Try.ntmps75
    go_wp2_with fail
    refine (HP.out _).mono ?_
    rintro e w1 ⟨rfl, hb⟩
    have a0 : At w1 w.heap.size #[.complex .f64 a b, .int .i64 r] := At.below ((At.new _ _ _).old _) hb
    have a1 : At w1 (w.heap.size + 1) #[.complex .f64 0 0, .int .i64 0] := At.below (At.new' _ _ _ (by simp)) hb
    have hbw : Below w.heap.size w w1 := (((Below.refl _ _).alloc (Nat.le_refl _) _).alloc (by simp) _).trans (hb.mono (by simp; omega))
    have q0 := a0.cell; have f0 := a0.frozen; have z0 := a0.lt
    have q1 := a1.cell; have f1 := a1.frozen; have z1 := a1.lt
    clear a0 a1
    go_wp2_with fail
    refine (H1.out _).mono ?_
    rintro e w2 ⟨rfl, rfl⟩
    go_wp2_with fail
    refine bodyPost_ret (v := .tuple #[.agg #[.complex .f64 0 0, .int .i64 0], .int .i64 8]) (by simp [results, Try.results75, go_sem, q1, z1]) rfl ⟨rfl, ?_⟩
    repeat (first | exact hbw | refine below_drewN ?_ _ | refine Below.setCell ?_ (by simp) _ | refine Below.alloc ?_ (by simp; omega) _)
  · cases e2
    · have : ok = false := by rw [hok.out]; rfl
      subst this
      clear hok
      go_enter Try.func75, Try.ntmps75
      go_wp2_with fail
      refine (HP.out _).mono ?_
      rintro e w1 ⟨rfl, hb⟩
      have a0 : At w1 w.heap.size #[.complex .f64 a b, .int .i64 r] := At.below ((At.new _ _ _).old _) hb
      have a1 : At w1 (w.heap.size + 1) #[.complex .f64 0 0, .int .i64 0] := At.below (At.new' _ _ _ (by simp)) hb
      have hbw : Below w.heap.size w w1 := (((Below.refl _ _).alloc (Nat.le_refl _) _).alloc (by simp) _).trans (hb.mono (by simp; omega))
      have q0 := a0.cell; have f0 := a0.frozen; have z0 := a0.lt
      have q1 := a1.cell; have f1 := a1.frozen; have z1 := a1.lt
      clear a0 a1
      go_wp2_with fail
      refine (H1.out _).mono ?_
      rintro e w2 ⟨rfl, rfl⟩
      go_wp2_with fail
      refine (H2.out _).mono ?_
      rintro e w3 ⟨rfl, rfl⟩
      go_wp2_with fail
      refine bodyPost_ret (v := .tuple #[.agg #[.complex .f64 0 0, .int .i64 0], .int .i64 8]) (by simp [results, Try.results75, go_sem, q1, z1]) rfl ⟨rfl, ?_⟩
      repeat (first | exact hbw | refine below_drewN ?_ _ | refine Below.setCell ?_ (by simp) _ | refine Below.alloc ?_ (by simp; omega) _)
    · by_cases hr : r ≤ 67108864
      · have : ok = true := by rw [hok.out]; simp; omega
        subst this
        clear hok
        go_enter Try.func75, Try.ntmps75
        go_wp2_with fail
        refine (HP.out _).mono ?_
        rintro e w1 ⟨rfl, hb⟩
        have a0 : At w1 w.heap.size #[.complex .f64 a b, .int .i64 r] := At.below ((At.new _ _ _).old _) hb
        have a1 : At w1 (w.heap.size + 1) #[.complex .f64 0 0, .int .i64 0] := At.below (At.new' _ _ _ (by simp)) hb
        have hbw : Below w.heap.size w w1 := (((Below.refl _ _).alloc (Nat.le_refl _) _).alloc (by simp) _).trans (hb.mono (by simp; omega))
        have q0 := a0.cell; have f0 := a0.frozen; have z0 := a0.lt
        have q1 := a1.cell; have f1 := a1.frozen; have z1 := a1.lt
        clear a0 a1
        go_wp2_with fail
        refine (H1.out _).mono ?_
        rintro e w2 ⟨rfl, rfl⟩
        go_wp2_with fail
        refine (H2.out _).mono ?_
        rintro e w3 ⟨rfl, rfl⟩
        go_wp2_with fail
        go_region_held3 (fun w' => w'.cell? ⟨w1.heap.size, 0, none⟩ = some (.int .i64 x) ∧ w'.cell? ⟨w1.heap.size, 1, none⟩ = some (.int .i64 y) ∧ w'.cell? ⟨w.heap.size, 1, none⟩ = some (.int .i64 r)) (simp [go_sem, q0, z0]) ((go_at_call 74; refine (centreAt_any x y _).mono ?_; rintro e w4 ⟨rfl, rfl⟩))
        go_wp2_with fail
        refine bodyPost_ret (v := .tuple #[.agg #[.complex .f64 (fi x) (fi y), .int .i64 r], .int .i64 0]) (by simp [results, Try.results75, go_sem, q1, z1]) rfl ⟨rfl, ?_⟩
        repeat (first | exact hbw | refine Below.drew ?_ | refine below_drewN ?_ _ | refine Below.setCell ?_ (by simp) _ | refine Below.alloc ?_ (by simp; omega) _)
      · have : ok = false := by rw [hok.out]; simp; omega
        subst this
        clear hok
        go_enter Try.func75, Try.ntmps75
        go_wp2_with fail
        refine (HP.out _).mono ?_
        rintro e w1 ⟨rfl, hb⟩
        have a0 : At w1 w.heap.size #[.complex .f64 a b, .int .i64 r] := At.below ((At.new _ _ _).old _) hb
        have a1 : At w1 (w.heap.size + 1) #[.complex .f64 0 0, .int .i64 0] := At.below (At.new' _ _ _ (by simp)) hb
        have hbw : Below w.heap.size w w1 := (((Below.refl _ _).alloc (Nat.le_refl _) _).alloc (by simp) _).trans (hb.mono (by simp; omega))
        have q0 := a0.cell; have f0 := a0.frozen; have z0 := a0.lt
        have q1 := a1.cell; have f1 := a1.frozen; have z1 := a1.lt
        clear a0 a1
        go_wp2_with fail
        refine (H1.out _).mono ?_
        rintro e w2 ⟨rfl, rfl⟩
        go_wp2_with fail
        refine (H2.out _).mono ?_
        rintro e w3 ⟨rfl, rfl⟩
        go_wp2_with fail
        refine bodyPost_ret (v := .tuple #[.agg #[.complex .f64 0 0, .int .i64 0], .int .i64 8]) (by simp [results, Try.results75, go_sem, q1, z1]) rfl ⟨rfl, ?_⟩
        repeat (first | exact hbw | refine below_drewN ?_ _ | refine Below.setCell ?_ (by simp) _ | refine Below.alloc ?_ (by simp; omega) _)

end Go.Proofs.Ythkooiopiaakbaa
