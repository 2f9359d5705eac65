/- The contract of the product of two balls. -/
import Derived.Test.YthkooiopiaakbaaOps
namespace Go.Proofs.Ythkooiopiaakbaa
open Go.RowKit Go.Lib
attribute [local go_sem] run_store_float run_store_complex

/-- The spread of a product, and its centre and radius. -/
def prodSpread (x y u v r s : Int) : Int := upw x y * s + upw u v * r + r * s
def prodR (x y u v r s : Int) : Int := cdiv (prodSpread x y u v r s) 1048576 + (if wholeB (x * u - y * v) 1048576 && wholeB (x * v + y * u) 1048576 then 0 else 1)
def prodX (x y u v : Int) : Int := rdiv (x * u - y * v) 1048576
def prodY (x y u v : Int) : Int := rdiv (x * v + y * u) 1048576

theorem upw_bd {x y : Int} (hx : Sm 67108864 x) (hy : Sm 67108864 y) : 0 ≤ upw x y ∧ upw x y ≤ 134217728 := by
  have hs := sq2_bd hx hy
  exact ⟨(rtu_bd _ hs.1 (by omega)).1, rtu_le hs.1 (by omega) (by omega) (by omega)⟩

theorem mul_bd {a b A B : Int} (ha : Sm A a) (hb : Sm B b) (hA : 0 ≤ A) : -(A * B) ≤ a * b ∧ a * b ≤ A * B := by
  have hB : 0 ≤ B := by have := hb.1; have := hb.2; omega
  have h1 : (a * b).natAbs ≤ (A * B).natAbs := by
    rw [Int.natAbs_mul, Int.natAbs_mul]
    exact Nat.mul_le_mul (by have := ha.1; have := ha.2; omega) (by have := hb.1; have := hb.2; omega)
  have h2 : 0 ≤ A * B := Int.mul_nonneg hA hB
  omega

theorem mul_bd0 {a b A B : Int} (h0 : 0 ≤ a) (ha : a ≤ A) (g0 : 0 ≤ b) (hb : b ≤ B) : 0 ≤ a * b ∧ a * b ≤ A * B :=
  ⟨Int.mul_nonneg h0 g0, Int.mul_le_mul ha hb g0 (by omega)⟩

set_option maxHeartbeats 1000000 in
theorem Times1_any {a b c d : Nat} {x y u v r s : Int} (h : Cp a b x y) (hc : ckB x y r = 0) (g : Cp c d u v) (gc : ckB u v s = 0) (w : World) :
    Calls Try.prog 98 #[.agg #[.complex .f64 a b, .int .i64 r], .agg #[.complex .f64 c d, .int .i64 s]] w (Mem (resB (prodX x y u v) (prodY x y u v) (prodR x y u v r s)) w) := by
  obtain ⟨hx, hy, hr0, hr⟩ := ckB_ok hc
  obtain ⟨hu, hv, hs0, hs⟩ := ckB_ok gc
  have m1 := mul_bd hx hu (by decide)
  have m2 := mul_bd hy hv (by decide)
  have m3 := mul_bd hx hv (by decide)
  have m4 := mul_bd hy hu (by decide)
  have inF : ∀ {z : Int}, -(67108864 * 67108864) ≤ z ∧ z ≤ 67108864 * 67108864 → InF z := fun h => ⟨by omega, by omega⟩
  have i1 : InF (x * u - y * v) := ⟨by omega, by omega⟩
  have i2 : InF (x * v + y * u) := ⟨by omega, by omega⟩
  obtain ⟨p, q, hpq, hm⟩ := times_any h g (hx.inF (by decide)) (hy.inF (by decide)) (hu.inF (by decide)) (hv.inF (by decide)) (inF m1) (inF m2) (inF m3) (inF m4) i1 i2
  have HM := Lib.hid hm
  have d1 : DvIn (x * u - y * v) 1 1048576 := DvIn_by (X := 9007199254740992) (Y := 1) i1.1 i1.2 (by decide) (by decide) (by decide) (by decide) (by decide) (by decide) (by decide)
  have d2 : DvIn (x * v + y * u) 1 1048576 := DvIn_by (X := 9007199254740992) (Y := 1) i2.1 i2.2 (by decide) (by decide) (by decide) (by decide) (by decide) (by decide) (by decide)
  have HS := fun w => scaled_any hpq i1 i2 d1 d2 w
  have b1 := upw_bd hx hy
  have b2 := upw_bd hu hv
  have s1 := mul_bd0 b1.1 b1.2 hs0 hs
  have s2 := mul_bd0 b2.1 b2.2 hr0 hr
  have s3 := mul_bd0 hr0 hr hs0 hs
  have ps : 0 ≤ prodSpread x y u v r s ∧ prodSpread x y u v r s ≤ 45035996273704960 := by unfold prodSpread; omega
  have d3 : DvIn (prodSpread x y u v r s) 1 1048576 := DvIn_by (X := 45035996273704960) (Y := 1) (by omega) ps.2 (by decide) (by decide) (by decide) (by decide) (by decide) (by decide) (by decide)
  have HU := fun w => upper_any _ _ _ (Lib.hid d3) w
  have HU1 := Lib.hid (fun w => up_mk h ⟨by have := hx.1; omega, by have := hx.2; omega⟩ ⟨by have := hy.1; omega, by have := hy.2; omega⟩ w)
  have HU2 := Lib.hid (fun w => up_mk g ⟨by have := hu.1; omega, by have := hu.2; omega⟩ ⟨by have := hv.1; omega, by have := hv.2; omega⟩ w)
  have cd := cdiv_eq (prodSpread x y u v r s) (d := 1048576) (by decide)
  have cb : 0 ≤ cdiv (prodSpread x y u v r s) 1048576 ∧ cdiv (prodSpread x y u v r s) 1048576 ≤ 4611686018427387904 := by rw [cd]; split <;> omega
  have HR := fun w => rounded_any (fi (rdiv (x * u - y * v) 1048576)) (fi (rdiv (x * v + y * u) 1048576)) (wholeB (x * u - y * v) 1048576 && wholeB (x * v + y * u) 1048576) (cdiv (prodSpread x y u v r s) 1048576) cb.1 cb.2 w
  have rb : ∀ {z : Int}, InF z → InF (rdiv z 1048576) := by
    intro z hz
    have e := rdiv_eq z (d := 1048576) (by decide)
    unfold InF at *
    rw [e]; split <;> omega
  have HB := fun w => discBall_any (prodR x y u v r s) ⟨Rp_fi (rdiv (x * u - y * v) 1048576), Rp_fi (rdiv (x * v + y * u) 1048576)⟩ (rb i1) (rb i2) w
  have er : (if (wholeB (x * u - y * v) 1048576 && wholeB (x * v + y * u) 1048576) = true then cdiv (prodSpread x y u v r s) 1048576 else cdiv (prodSpread x y u v r s) 1048576 + 1) = prodR x y u v r s := by
    unfold prodR; split <;> omega
  rw [er] at HR
  obtain ⟨za, zb, zr, ze, hz⟩ := resB_eq (prodX x y u v) (prodY x y u v) (prodR x y u v r s)
  have hz' : resB (rdiv (x * u - y * v) 1048576) (rdiv (x * v + y * u) 1048576) (prodR x y u v r s) = balV za zb zr ze := hz
  rw [hz'] at HB
  rw [hz]
  simp only [Int.mul_one] at HS HU
  have hps : prodSpread x y u v r s = upw x y * s + upw u v * r + r * s := rfl
  rw [hps] at HU HR ps
  clear er rb cb cd d1 d2 d3 hz hz' i1 i2 hm hpq m1 m2 m3 m4 inF hc gc hx hy hu hv h g hps
  generalize prodR x y u v r s = pr at *
  generalize (wholeB (x * u - y * v) 1048576 && wholeB (x * v + y * u) 1048576) = ex at *
  generalize fi (rdiv (x * u - y * v) 1048576) = fX at *
  generalize fi (rdiv (x * v + y * u) 1048576) = fY at *
  generalize upw x y = ua at *
  generalize upw u v = ub at *
  replace HS := Lib.hid HS
  replace HU := Lib.hid HU
  replace HR := Lib.hid HR
  replace HB := Lib.hid HB
  have h1 : IntKind.i64.wrap (ua * s) = ua * s := IntWalk.i64_in _ (by omega)
  have h2 : IntKind.i64.wrap (ub * r) = ub * r := IntWalk.i64_in _ (by omega)
  have h3 : IntKind.i64.wrap (r * s) = r * s := IntWalk.i64_in _ (by omega)
  have h4 : IntKind.i64.wrap (ua * s + ub * r) = ua * s + ub * r := IntWalk.i64_in _ (by omega)
  have h5 : IntKind.i64.wrap (ua * s + ub * r + r * s) = ua * s + ub * r + r * s := IntWalk.i64_in _ (by omega)
  clear s1 s2 s3 ps b1 b2 hr0 hr hs0 hs
  generalize cdiv (ua * s + ub * r + r * s) 1048576 = cdv at *
  unfold balV at *
  go_enter Try.func98, Try.ntmps98
  go_wp2_with fail
  refine (HM.out _).mono ?_
  rintro e w' ⟨rfl, rfl⟩
  go_wp2_with fail
  refine (HS.out _).mono ?_
  rintro e w1 ⟨rfl, hb⟩
  obtain ⟨a0, a1, a2, hbw⟩ := three_new hb
  have q0 := a0.cell; have z0 := a0.lt
  have q1 := a1.cell; have z1 := a1.lt
  have A2 := Lib.hid a2
  clear a0 a1 a2 hb
  go_wp2_with fail
  go_region_held3 (fun w' => w'.cell? ⟨w.heap.size, 0, none⟩ = some (.complex .f64 a b) ∧ w'.cell? ⟨w.heap.size, 1, none⟩ = some (.int .i64 r) ∧ w'.cell? ⟨w.heap.size + 1, 0, none⟩ = some (.complex .f64 c d) ∧ w'.cell? ⟨w.heap.size + 1, 1, none⟩ = some (.int .i64 s)) (simp [*, go_sem]) (first | (go_at_call_of 99 (Value.complex FloatKind.f64 a b); refine (HU1.out _).mono ?_; rintro e w4 ⟨rfl, n1, rfl⟩) | (go_at_call_of 99 (Value.complex FloatKind.f64 c d); refine (HU2.out _).mono ?_; rintro e w4 ⟨rfl, n2, rfl⟩))
  go_wp2_with fail
  refine (HU.out _).mono ?_
  rintro e w' ⟨rfl, k1, rfl⟩
  go_wp2_with fail
  refine (HR.out _).mono ?_
  rintro e w2 ⟨rfl, hb2⟩
  have A3 := Lib.hid (At.below (At.drewN (At.old (At.drewN (At.old A2.out _) _) _) _) hb2)
  have hbw2 : Below w.heap.size w w2 := (below_drewN ((below_drewN (hbw.alloc hbw.size _) _).alloc (by have := hbw.size; simp; omega) _) _).trans (hb2.mono (by have := hbw.size; simp; omega))
  clear q0 z0 q1 z1 A2 hb2 hbw
  go_wp2_with fail
  refine (HB.out _).mono ?_
  rintro e w3 ⟨rfl, hb3⟩
  have a3 := A3.out.below hb3
  have hbw3 : Below w.heap.size w w3 := hbw2.trans (hb3.mono hbw2.size)
  have q2 := a3.cell; have f2 := a3.frozen; have z2 := a3.lt
  clear a3 A3 hb3 hbw2
  go_wp2_with fail
  refine bodyPost_ret (v := .tuple #[.agg #[.complex .f64 za zb, .int .i64 zr], .int .i64 ze]) (by simp [results, Try.results98, go_sem, q2]) rfl ⟨rfl, ?_⟩
  repeat (first | exact hbw3 | refine Below.drew ?_ | refine below_drewN ?_ _ | refine Below.setCell ?_ (by simp; omega) _ | refine Below.alloc ?_ (by simp; omega) _)

set_option maxHeartbeats 400000 in
theorem Times_of {a b c d : Nat} {r s : Int} {za zb : Nat} {zr ze : Int} {w : World}
    (HK : Hid (∀ W, Calls Try.prog 84 #[.agg #[.complex .f64 a b, .int .i64 r], .agg #[.complex .f64 c d, .int .i64 s], .func (.func 98) #[] #[]] W (Mem (balV za zb zr ze) W))) :
    Calls Try.prog 37 #[.agg #[.complex .f64 a b, .int .i64 r], .agg #[.complex .f64 c d, .int .i64 s]] w (Mem (balV za zb zr ze) w) := by
  go_enter Try.func37, Try.ntmps37
  go_wp2_with fail
  refine (HK.out _).mono ?_
  rintro e w5 ⟨rfl, hb⟩
  obtain ⟨a0, a1, a2, hbw⟩ := three_new hb
  have q2 := a2.cell; have f2 := a2.frozen; have z2 := a2.lt
  clear a0 a1 a2 hb
  unfold balV
  go_wp2_with fail
  refine bodyPost_ret (v := .tuple #[.agg #[.complex .f64 za zb, .int .i64 zr], .int .i64 ze]) (by simp [results, Try.results37, go_sem, q2]) rfl ⟨rfl, ?_⟩
  repeat (first | exact hbw | refine Below.drew ?_ | refine below_drewN ?_ _ | refine Below.setCell ?_ (by simp; omega) _ | refine Below.alloc ?_ (by simp; omega) _)

/-- Times, for whole parts: the error of the first ball, of the second one, or what comes of both. -/
theorem Times_any {a b c d : Nat} {x y u v : Int} (r s : Int) (h : Cp a b x y) (hx : InF x) (hy : InF y) (g : Cp c d u v) (hu : InF u) (hv : InF v) (w : World) :
    Calls Try.prog 37 #[.agg #[.complex .f64 a b, .int .i64 r], .agg #[.complex .f64 c d, .int .i64 s]] w (Mem (if ckB x y r = 0 ∧ ckB u v s = 0 then resB (prodX x y u v) (prodY x y u v) (prodR x y u v r s) else balV 0 0 0 2) w) := by
  rcases ckB_cases x y r with h1 | h1
  · rcases ckB_cases u v s with h2 | h2
    · rw [if_pos ⟨h1, h2⟩]
      have HK := fun W => Times1_any h h1 g h2 W
      obtain ⟨za, zb, zr, ze, hz⟩ := resB_eq (prodX x y u v) (prodY x y u v) (prodR x y u v r s)
      rw [hz] at HK ⊢
      exact Times_of (Lib.hid fun W => ofTwoBall_ok r s (Lib.hid (ent_of Try.func98 (by kernel_rfl) rfl)) h hx hy h1 g hu hv h2 (Lib.hid HK) W)
    · rw [if_neg (by rw [h2]; simp)]
      exact Times_of (Lib.hid fun W => ofTwoBall_bad2 r s h hx hy h1 g hu hv h2 W)
  · rw [if_neg (by rw [h1]; simp)]
    exact Times_of (Lib.hid fun W => ofTwoBall_bad1 r s h hx hy h1 W)

end Go.Proofs.Ythkooiopiaakbaa
