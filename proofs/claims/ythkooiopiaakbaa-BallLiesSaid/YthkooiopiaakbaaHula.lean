/- Hull of package ball in general. -/
import Derived.Test.YthkooiopiaakbaaHull
import Derived.Test.YthkooiopiaakbaaTimes
namespace Go.Proofs.Ythkooiopiaakbaa
open Go.RowKit Go.Lib
attribute [local go_sem] run_store_float run_store_complex
set_option linter.unusedVariables false

def hullX (x u : Int) : Int := rdiv (x + u) 2
def hullR (x y r u v s : Int) : Int :=
  if upw (x - hullX x u) (y - hullX y v) + r < upw (u - hullX x u) (v - hullX y v) + s then upw (u - hullX x u) (v - hullX y v) + s else upw (x - hullX x u) (y - hullX y v) + r

theorem upw_small {x y : Int} (hx : Sm 134217728 x) (hy : Sm 134217728 y) : 0 ≤ upw x y ∧ upw x y ≤ 268435456 := by
  have b1 := sq_bd hx
  have b2 := sq_bd hy
  unfold upw sq2
  exact rtu_bd _ (by omega) (by omega)

set_option maxRecDepth 100000 in
set_option maxHeartbeats 2000000 in
theorem Hull_of {a b c d : Nat} {r s : Int} {za zb : Nat} {zr ze : Int}
    (HK : Hid (∀ W, Calls Try.prog 84 #[.agg #[.complex .f64 a b, .int .i64 r], .agg #[.complex .f64 c d, .int .i64 s], .func (.func 125) #[] #[]] W (Mem (balV za zb zr ze) W))) (w : World) :
    Calls Try.prog 55 #[.agg #[.complex .f64 a b, .int .i64 r], .agg #[.complex .f64 c d, .int .i64 s]] w (Mem (balV za zb zr ze) w) := by
  unfold balV at *
  go_enter Try.func55, Try.ntmps55
  go_wp2_with fail
  have K := (((Hold.start w).new #[.complex .f64 a b, .int .i64 r] 27 (n := w.heap.size) (by simp)).new #[.complex .f64 c d, .int .i64 s] 27 (n := w.heap.size + 1) (by simp)).new #[.complex .f64 0 0, .int .i64 0] 27 (n := w.heap.size + 1 + 1) (by simp)
  refine (HK.out _).mono ?_
  rintro e_1 w1 ⟨rfl, hb⟩
  have K' := Hold.mem (K) hb
  clear hb K
  have K := K'
  clear K'
  obtain ⟨_, sz1, h0, h1, h2, _⟩ := id K
  have q0 := h0.cell; have f0 := h0.frozen; have z1_0 := h0.lt
  have q1 := h1.cell; have f1 := h1.frozen; have z1_1 := h1.lt
  have q2 := h2.cell; have f2 := h2.frozen; have z1_2 := h2.lt
  clear h0 h1 h2
  go_wp2_with fail
  refine bodyPost_ret (v := .tuple #[.agg #[.complex .f64 za zb, .int .i64 zr], .int .i64 ze]) (by simp [results, Try.results55, go_sem, *]) rfl ⟨rfl, ?_⟩
  repeat (first | exact K.below | refine Below.setCell ?_ (by simp <;> omega) _ | refine Below.alloc ?_ (by first | exact K.size | (simp <;> omega)) _)

theorem hullX_in {x u : Int} (hx : Sm 67108864 x) (hu : Sm 67108864 u) : Sm 67108864 (hullX x u) := by
  obtain ⟨x1, x2⟩ := hx
  obtain ⟨u1, u2⟩ := hu
  unfold hullX rdiv
  exact ⟨by omega, by omega⟩

theorem Hull_any {a b c d : Nat} {x y u v : Int} (r s : Int) (h : Cp a b x y) (hx : InF x) (hy : InF y) (g : Cp c d u v) (hu : InF u) (hv : InF v) (w : World) :
    Calls Try.prog 55 #[.agg #[.complex .f64 a b, .int .i64 r], .agg #[.complex .f64 c d, .int .i64 s]] w (Mem (if ckB x y r = 0 ∧ ckB u v s = 0 then resB (hullX x u) (hullX y v) (hullR x y r u v s) else balV 0 0 0 2) w) := by
  rcases ckB_cases x y r with h1 | h1
  · rcases ckB_cases u v s with h2 | h2
    · rw [if_pos ⟨h1, h2⟩]
      obtain ⟨sx, sy, r1, r2⟩ := ckB_ok h1
      obtain ⟨su, sv, s1, s2⟩ := ckB_ok h2
      obtain ⟨m1, m2⟩ := hullX_in sx su
      obtain ⟨n1, n2⟩ := hullX_in sy sv
      have R0 : (if upw (x - hullX x u) (y - hullX y v) + r < upw (u - hullX x u) (v - hullX y v) + s then upw (u - hullX x u) (v - hullX y v) + s else upw (x - hullX x u) (y - hullX y v) + r) = hullR x y r u v s := rfl
      have D1 : DvIn (x + u) 1 2 := DvIn_by (X := 134217728) (Y := 1) (by have := sx.1; have := su.1; omega) (by have := sx.2; have := su.2; omega) (by decide) (by decide) (by decide) (by decide) (by decide) (by decide) (by decide)
      have D2 : DvIn (y + v) 1 2 := DvIn_by (X := 134217728) (Y := 1) (by have := sy.1; have := sv.1; omega) (by have := sy.2; have := sv.2; omega) (by decide) (by decide) (by decide) (by decide) (by decide) (by decide) (by decide)
      have ex : rdiv ((x + u) * 1) 2 = hullX x u := by unfold hullX; rw [Int.mul_one]
      have ey : rdiv ((y + v) * 1) 2 = hullX y v := by unfold hullX; rw [Int.mul_one]
      obtain ⟨x1, x2⟩ := sx
      obtain ⟨y1, y2⟩ := sy
      obtain ⟨u1, u2⟩ := su
      obtain ⟨v1, v2⟩ := sv
      obtain ⟨p, q, hpq, HP⟩ := plus_any h g hx hy hu hv ⟨by omega, by omega⟩ ⟨by omega, by omega⟩
      have HS := fun w => scaled_any hpq ⟨by omega, by omega⟩ ⟨by omega, by omega⟩ D1 D2 w
      rw [ex, ey] at HS
      generalize hullX x u = mx at *
      generalize hullX y v = my at *
      have hm : Cp (fi mx) (fi my) mx my := ⟨Rp_fi _, Rp_fi _⟩
      obtain ⟨e1, f1, he1, M1⟩ := minus_any h hm hx hy ⟨by omega, by omega⟩ ⟨by omega, by omega⟩ ⟨by omega, by omega⟩ ⟨by omega, by omega⟩
      obtain ⟨e2, f2, he2, M2⟩ := minus_any g hm hu hv ⟨by omega, by omega⟩ ⟨by omega, by omega⟩ ⟨by omega, by omega⟩ ⟨by omega, by omega⟩
      have U1 := fun w => up_any he1 ⟨by omega, by omega⟩ ⟨by omega, by omega⟩ w
      have U2 := fun w => up_any he2 ⟨by omega, by omega⟩ ⟨by omega, by omega⟩ w
      have b1 := upw_small (x := x - mx) (y := y - my) ⟨by omega, by omega⟩ ⟨by omega, by omega⟩
      have b2 := upw_small (x := u - mx) (y := v - my) ⟨by omega, by omega⟩ ⟨by omega, by omega⟩
      have HB := fun w => discBall_any (hullR x y r u v s) hm ⟨by omega, by omega⟩ ⟨by omega, by omega⟩ w
      obtain ⟨za, zb, zr, ze, hz⟩ := resB_eq mx my (hullR x y r u v s)
      rw [hz] at HB ⊢
      exact Hull_of (Lib.hid fun W => ofTwoBall_ok r s (Lib.hid (ent_of Try.func125 (by kernel_rfl) rfl)) h hx hy h1 g hu hv h2 (Lib.hid fun W => Hull1_walk ⟨r1, r2⟩ ⟨s1, s2⟩ ⟨b1.1, by omega⟩ ⟨b2.1, by omega⟩ R0 (Lib.hid HP) (Lib.hid HS) (Lib.hid M1) (Lib.hid M2) (Lib.hid U1) (Lib.hid U2) (Lib.hid HB) W) W) w
    · rw [if_neg (by omega)]
      exact Hull_of (Lib.hid fun W => ofTwoBall_bad2 r s h hx hy h1 g hu hv h2 W) w
  · rw [if_neg (by omega)]
    exact Hull_of (Lib.hid fun W => ofTwoBall_bad1 r s h hx hy h1 W) w

end Go.Proofs.Ythkooiopiaakbaa
