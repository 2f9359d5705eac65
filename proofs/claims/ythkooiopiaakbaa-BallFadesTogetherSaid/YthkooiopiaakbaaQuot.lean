/- The contract of the quotient of two balls, where its divisions are right. -/
import Derived.Test.YthkooiopiaakbaaReal
namespace Go.Proofs.Ythkooiopiaakbaa
open Go.RowKit Go.Lib
attribute [local go_sem] run_store_float run_store_complex

theorem At.drewS {w : World} {b : Nat} {c : Array Value} (h : At w b c) : At w.drew b c := h

def quoN1 (x y u v : Int) : Int := x * u - y * -v
def quoN2 (x y u v : Int) : Int := x * -v + y * u
def quoSpread (x y u v r s : Int) : Int := r * upw u v + upw x y * s
def quoDen (u v s : Int) : Int := (dn u v - s) * dn u v
def quoEx (x y u v : Int) : Bool := wholeB (quoN1 x y u v * 1048576) (sq2 u v) && wholeB (quoN2 x y u v * 1048576) (sq2 u v)
def quoR (x y u v r s : Int) : Int := cdiv (quoSpread x y u v r s * 1048576) (quoDen u v s) + (if quoEx x y u v then 0 else 1)
/-- The divisions of a quotient are right. -/
def QuoIn (x y u v r s : Int) : Prop := DvIn (quoN1 x y u v) 1048576 (sq2 u v) ∧ DvIn (quoN2 x y u v) 1048576 (sq2 u v) ∧ DvIn (quoSpread x y u v r s) 1048576 (quoDen u v s) ∧
  InF (rdiv (quoN1 x y u v * 1048576) (sq2 u v)) ∧ InF (rdiv (quoN2 x y u v * 1048576) (sq2 u v)) ∧ 0 ≤ cdiv (quoSpread x y u v r s * 1048576) (quoDen u v s) ∧ cdiv (quoSpread x y u v r s * 1048576) (quoDen u v s) ≤ 4611686018427387904

def quoV (x y u v r s : Int) : Value := if dn u v - s ≤ 0 then balV 0 0 0 9 else resB (rdiv (quoN1 x y u v * 1048576) (sq2 u v)) (rdiv (quoN2 x y u v * 1048576) (sq2 u v)) (quoR x y u v r s)

set_option maxHeartbeats 1000000 in
theorem Quotient1_zero {a b c d : Nat} {u v r s : Int} (g : Cp c d u v) (gc : ckB u v s = 0) (hz : dn u v - s ≤ 0) (w : World) :
    Calls Try.prog 104 #[.agg #[.complex .f64 a b, .int .i64 r], .agg #[.complex .f64 c d, .int .i64 s]] w (Mem (balV 0 0 0 9) w) := by
  obtain ⟨hu, hv, hs0, hs⟩ := ckB_ok gc
  have b2 := dn_bd hu hv
  have HD := Lib.hid (fun w => down_mk g ⟨by have := hu.1; omega, by have := hu.2; omega⟩ ⟨by have := hv.1; omega, by have := hv.2; omega⟩ w)
  clear g gc hu hv
  generalize dn u v = db at *
  have h1 : IntKind.i64.wrap (db - s) = db - s := IntWalk.i64_in _ (by omega)
  unfold balV
  go_enter Try.func104, Try.ntmps104
  go_wp2_with fail
  go_region_held3 (fun w' => w'.cell? ⟨w.heap.size + 1, 0, none⟩ = some (.complex .f64 c d) ∧ w'.cell? ⟨w.heap.size + 1, 1, none⟩ = some (.int .i64 s)) (simp [*, go_sem]) ((go_at_call 105; refine (HD.out _).mono ?_; rintro e w4 ⟨rfl, n1, rfl⟩))
  all_goals
    go_wp2_with fail
    refine bodyPost_ret (v := .tuple #[.agg #[.complex .f64 0 0, .int .i64 0], .int .i64 9]) (by simp [results, Try.results104, go_sem]) rfl ⟨rfl, ?_⟩
    repeat (first | exact Below.refl _ _ | refine Below.drew ?_ | refine below_drewN ?_ _ | refine Below.setCell ?_ (by simp <;> omega) _ | refine Below.alloc ?_ (by simp <;> omega) _)

set_option maxHeartbeats 1000000 in
theorem Quotient1_ok {a b c d : Nat} {x y u v r s : Int} (h : Cp a b x y) (hc : ckB x y r = 0) (g : Cp c d u v) (gc : ckB u v s = 0) (hz : ¬ dn u v - s ≤ 0) (hq : QuoIn x y u v r s) (w : World) :
    Calls Try.prog 104 #[.agg #[.complex .f64 a b, .int .i64 r], .agg #[.complex .f64 c d, .int .i64 s]] w
      (Mem (resB (rdiv (quoN1 x y u v * 1048576) (sq2 u v)) (rdiv (quoN2 x y u v * 1048576) (sq2 u v)) (quoR x y u v r s)) w) := by
  obtain ⟨hx, hy, hr0, hr⟩ := ckB_ok hc
  obtain ⟨hu, hv, hs0, hs⟩ := ckB_ok gc
  obtain ⟨d1, d2, d3, i3, i4, cb1, cb2⟩ := hq
  have nv : Sm 67108864 (-v) := ⟨by have := hv.2; omega, by have := hv.1; omega⟩
  have m1 := mul_bd hx hu (by decide)
  have m2 := mul_bd hy nv (by decide)
  have m3 := mul_bd hx nv (by decide)
  have m4 := mul_bd hy hu (by decide)
  have inF : ∀ {z : Int}, -(67108864 * 67108864) ≤ z ∧ z ≤ 67108864 * 67108864 → InF z := fun h => ⟨by omega, by omega⟩
  have i1 : InF (x * u - y * -v) := ⟨by omega, by omega⟩
  have i2 : InF (x * -v + y * u) := ⟨by omega, by omega⟩
  obtain ⟨mb, hmb, hmi⟩ := mirrored_any g (hv.inF (by decide))
  obtain ⟨p, q, hpq, hm⟩ := times_any h hmb (hx.inF (by decide)) (hy.inF (by decide)) (hu.inF (by decide)) (nv.inF (by decide)) (inF m1) (inF m2) (inF m3) (inF m4) i1 i2
  have HMI := Lib.hid hmi
  have HM := Lib.hid hm
  have HQ := Lib.hid (fun w => square_mk g ⟨by have := hu.1; omega, by have := hu.2; omega⟩ ⟨by have := hv.1; omega, by have := hv.2; omega⟩ w)
  have HS := Lib.hid (fun w => scaled_any hpq i1 i2 d1 d2 w)
  have b1 := upw_bd hx hy
  have b2 := upw_bd hu hv
  have b3 := dn_bd hu hv
  have s1 := mul_bd0 hr0 hr b2.1 b2.2
  have s2 := mul_bd0 b1.1 b1.2 hs0 hs
  have s3 := mul_bd0 (a := dn u v - s) (A := 134217728) (by omega) (by omega) b3.1 b3.2
  have HU := fun w => upper_any _ _ _ (Lib.hid d3) w
  have HU1 := Lib.hid (fun w => up_mk h ⟨by have := hx.1; omega, by have := hx.2; omega⟩ ⟨by have := hy.1; omega, by have := hy.2; omega⟩ w)
  have HU2 := Lib.hid (fun w => up_mk g ⟨by have := hu.1; omega, by have := hu.2; omega⟩ ⟨by have := hv.1; omega, by have := hv.2; omega⟩ w)
  have HD := Lib.hid (fun w => down_mk g ⟨by have := hu.1; omega, by have := hu.2; omega⟩ ⟨by have := hv.1; omega, by have := hv.2; omega⟩ w)
  have HR := fun w => rounded_any (fi (rdiv (quoN1 x y u v * 1048576) (sq2 u v))) (fi (rdiv (quoN2 x y u v * 1048576) (sq2 u v))) (quoEx x y u v) (cdiv (quoSpread x y u v r s * 1048576) (quoDen u v s)) cb1 cb2 w
  have HB := fun w => discBall_any (quoR x y u v r s) ⟨Rp_fi (rdiv (quoN1 x y u v * 1048576) (sq2 u v)), Rp_fi (rdiv (quoN2 x y u v * 1048576) (sq2 u v))⟩ i3 i4 w
  have er : (if quoEx x y u v = true then cdiv (quoSpread x y u v r s * 1048576) (quoDen u v s) else cdiv (quoSpread x y u v r s * 1048576) (quoDen u v s) + 1) = quoR x y u v r s := by
    unfold quoR; split <;> omega
  rw [er] at HR
  obtain ⟨za, zb, zr, ze, hzz⟩ := resB_eq (rdiv (quoN1 x y u v * 1048576) (sq2 u v)) (rdiv (quoN2 x y u v * 1048576) (sq2 u v)) (quoR x y u v r s)
  rw [hzz] at HB ⊢
  have e1 : x * u - y * -v = quoN1 x y u v := rfl
  have e2 : x * -v + y * u = quoN2 x y u v := rfl
  rw [e1, e2] at HS
  have e3 : (wholeB (quoN1 x y u v * 1048576) (sq2 u v) && wholeB (quoN2 x y u v * 1048576) (sq2 u v)) = quoEx x y u v := rfl
  rw [e3] at HS
  have e4 : quoSpread x y u v r s = r * upw u v + upw x y * s := rfl
  have e5 : quoDen u v s = (dn u v - s) * dn u v := rfl
  rw [e4, e5] at HU HR
  clear er d1 d2 d3 i1 i2 i3 i4 cb1 cb2 hzz hm hmi hmb hpq m1 m2 m3 m4 nv inF hc gc hx hy hu hv h g e1 e2 e3 e4 e5
  generalize quoR x y u v r s = pr at *
  generalize quoEx x y u v = ex at *
  generalize fi (rdiv (quoN1 x y u v * 1048576) (sq2 u v)) = fX at *
  generalize fi (rdiv (quoN2 x y u v * 1048576) (sq2 u v)) = fY at *
  generalize sq2 u v = sq at *
  generalize upw x y = ua at *
  generalize upw u v = ub at *
  generalize dn u v = db at *
  replace HU := Lib.hid HU
  replace HR := Lib.hid HR
  replace HB := Lib.hid HB
  have h0 : IntKind.i64.wrap (db - s) = db - s := IntWalk.i64_in _ (by omega)
  have h1 : IntKind.i64.wrap (r * ub) = r * ub := IntWalk.i64_in _ (by omega)
  have h2 : IntKind.i64.wrap (ua * s) = ua * s := IntWalk.i64_in _ (by omega)
  have h3 : IntKind.i64.wrap (r * ub + ua * s) = r * ub + ua * s := IntWalk.i64_in _ (by omega)
  have h4 : IntKind.i64.wrap ((db - s) * db) = (db - s) * db := IntWalk.i64_in _ (by omega)
  clear s1 s2 s3 b1 b2 b3 hr0 hr hs0 hs
  generalize cdiv ((r * ub + ua * s) * 1048576) ((db - s) * db) = cdv at *
  unfold balV at *
  go_enter Try.func104, Try.ntmps104
  go_wp2_with fail
  go_region_held3 (fun w' => w'.cell? ⟨w.heap.size + 1, 0, none⟩ = some (.complex .f64 c d) ∧ w'.cell? ⟨w.heap.size + 1, 1, none⟩ = some (.int .i64 s)) (simp [*, go_sem]) ((go_at_call 105; refine (HD.out _).mono ?_; rintro e w4 ⟨rfl, n1, rfl⟩))
  go_wp2_with fail
  go_region_held3 (fun w' => w'.cell? ⟨w.heap.size, 0, none⟩ = some (.complex .f64 a b) ∧ w'.cell? ⟨w.heap.size, 1, none⟩ = some (.int .i64 r) ∧ w'.cell? ⟨w.heap.size + 1, 0, none⟩ = some (.complex .f64 c d) ∧ w'.cell? ⟨w.heap.size + 1, 1, none⟩ = some (.int .i64 s)) (simp [*, go_sem]) (first | (go_at_call 91; refine (HMI.out _).mono ?_; rintro e w4 ⟨rfl, rfl⟩) | (go_at_call 94; refine (HM.out _).mono ?_; rintro e w4 ⟨rfl, rfl⟩) | (go_at_call 106; refine (HQ.out _).mono ?_; rintro e w4 ⟨rfl, rfl⟩) | (go_at_call 77; refine (HS.out _).mono ?_; rintro e w5 ⟨rfl, hb⟩; have a0 : At w5 w.heap.size #[.complex .f64 a b, .int .i64 r] := At.below (by repeat (first | exact At.new _ _ _ | exact At.new' _ _ _ (by simp) | refine At.drewS ?_ | refine At.drewN ?_ _ | refine At.old ?_ _)) hb; have a1 : At w5 (w.heap.size + 1) #[.complex .f64 c d, .int .i64 s] := At.below (by repeat (first | exact At.new _ _ _ | exact At.new' _ _ _ (by simp) | refine At.drewS ?_ | refine At.drewN ?_ _ | refine At.old ?_ _)) hb; have a2 : At w5 (w.heap.size + 1 + 1) #[.complex .f64 0 0, .int .i64 0] := At.below (by repeat (first | exact At.new _ _ _ | exact At.new' _ _ _ (by simp) | refine At.drewS ?_ | refine At.drewN ?_ _ | refine At.old ?_ _)) hb; have hbw5 : Below w.heap.size w w5 := Below.trans (by repeat (first | exact Below.refl _ _ | refine Below.drew ?_ | refine below_drewN ?_ _ | refine Below.alloc ?_ (by simp <;> omega) _)) (hb.mono (by simp <;> omega)); have q0 := a0.cell; have z0 := a0.lt; have q1 := a1.cell; have z1 := a1.lt; have A2 := Lib.hid a2; clear a0 a1 a2 hb))
  go_wp2_with fail
  go_region_held3 (fun w' => w'.cell? ⟨w.heap.size, 0, none⟩ = some (.complex .f64 a b) ∧ w'.cell? ⟨w.heap.size, 1, none⟩ = some (.int .i64 r) ∧ w'.cell? ⟨w.heap.size + 1, 0, none⟩ = some (.complex .f64 c d) ∧ w'.cell? ⟨w.heap.size + 1, 1, none⟩ = some (.int .i64 s)) (simp [*, go_sem]) (first | (go_at_call_of 99 (Value.complex FloatKind.f64 a b); refine (HU1.out _).mono ?_; rintro e w4 ⟨rfl, n3, rfl⟩) | (go_at_call_of 99 (Value.complex FloatKind.f64 c d); refine (HU2.out _).mono ?_; rintro e w4 ⟨rfl, n4, rfl⟩))
  go_wp2_with fail
  refine (HD.out _).mono ?_
  rintro e w4 ⟨rfl, n5, rfl⟩
  go_wp2_with fail
  refine (HU.out _).mono ?_
  rintro e w4 ⟨rfl, n6, rfl⟩
  go_wp2_with fail
  refine (HR.out _).mono ?_
  rintro e w6 ⟨rfl, hb⟩
  have A3 : Hid (At w6 (w.heap.size + 1 + 1) #[.complex .f64 0 0, .int .i64 0]) := Lib.hid (At.below (by repeat (first | exact A2.out | refine At.drewS ?_ | refine At.drewN ?_ _ | refine At.old ?_ _)) hb)
  have z5 := hbw5.size
  have hbw6 : Below w.heap.size w w6 := Below.trans (by repeat (first | exact hbw5 | refine Below.drew ?_ | refine below_drewN ?_ _ | refine Below.alloc ?_ (by first | exact z5 | (simp <;> omega)) _)) (hb.mono (by first | exact z5 | (simp <;> omega)))
  clear q0 z0 q1 z1 A2 hb hbw5 z5
  go_wp2_with fail
  refine (HB.out _).mono ?_
  rintro e w7 ⟨rfl, hb⟩
  have a4 := A3.out.below hb
  have hbw7 : Below w.heap.size w w7 := hbw6.trans (hb.mono hbw6.size)
  have q4 := a4.cell; have f4 := a4.frozen; have z4 := a4.lt
  clear a4 A3 hb hbw6
  go_wp2_with fail
  refine bodyPost_ret (v := .tuple #[.agg #[.complex .f64 za zb, .int .i64 zr], .int .i64 ze]) (by simp [results, Try.results104, go_sem, q4]) rfl ⟨rfl, ?_⟩
  repeat (first | exact hbw7 | refine Below.drew ?_ | refine below_drewN ?_ _ | refine Below.setCell ?_ (by simp <;> omega) _ | refine Below.alloc ?_ (by simp <;> omega) _)

set_option maxHeartbeats 400000 in
theorem Quotient_of {a b c d : Nat} {r s : Int} {za zb : Nat} {zr ze : Int} {w : World}
    (HK : Hid (∀ W, Calls Try.prog 84 #[.agg #[.complex .f64 a b, .int .i64 r], .agg #[.complex .f64 c d, .int .i64 s], .func (.func 104) #[] #[]] W (Mem (balV za zb zr ze) W))) :
    Calls Try.prog 41 #[.agg #[.complex .f64 a b, .int .i64 r], .agg #[.complex .f64 c d, .int .i64 s]] w (Mem (balV za zb zr ze) w) := by
  go_enter Try.func41, Try.ntmps41
  go_wp2_with fail
  refine (HK.out _).mono ?_
  rintro e w5 ⟨rfl, hb⟩
  obtain ⟨a0, a1, a2, hbw⟩ := three_new hb
  have q2 := a2.cell; have f2 := a2.frozen; have z2 := a2.lt
  clear a0 a1 a2 hb
  unfold balV
  go_wp2_with fail
  refine bodyPost_ret (v := .tuple #[.agg #[.complex .f64 za zb, .int .i64 zr], .int .i64 ze]) (by simp [results, Try.results41, go_sem, q2]) rfl ⟨rfl, ?_⟩
  repeat (first | exact hbw | refine Below.drew ?_ | refine below_drewN ?_ _ | refine Below.setCell ?_ (by simp; omega) _ | refine Below.alloc ?_ (by simp; omega) _)

/-- Quotient, for whole parts, where its divisions are right. -/
theorem Quotient_any {a b c d : Nat} {x y u v : Int} (r s : Int) (h : Cp a b x y) (hx : InF x) (hy : InF y) (g : Cp c d u v) (hu : InF u) (hv : InF v)
    (hq : ckB x y r = 0 → ckB u v s = 0 → ¬ dn u v - s ≤ 0 → QuoIn x y u v r s) (w : World) :
    Calls Try.prog 41 #[.agg #[.complex .f64 a b, .int .i64 r], .agg #[.complex .f64 c d, .int .i64 s]] w (Mem (if ckB x y r = 0 ∧ ckB u v s = 0 then quoV x y u v r s else balV 0 0 0 2) w) := by
  rcases ckB_cases x y r with h1 | h1
  · rcases ckB_cases u v s with h2 | h2
    · rw [if_pos ⟨h1, h2⟩]
      have HE := Lib.hid (ent_of Try.func104 (by kernel_rfl) rfl)
      unfold quoV
      by_cases hz : dn u v - s ≤ 0
      · rw [if_pos hz]
        exact Quotient_of (Lib.hid fun W => ofTwoBall_ok r s HE h hx hy h1 g hu hv h2 (Lib.hid fun W => Quotient1_zero g h2 hz W) W)
      · rw [if_neg hz]
        have HK := fun W => Quotient1_ok h h1 g h2 hz (hq h1 h2 hz) W
        obtain ⟨za, zb, zr, ze, hzz⟩ := resB_eq (rdiv (quoN1 x y u v * 1048576) (sq2 u v)) (rdiv (quoN2 x y u v * 1048576) (sq2 u v)) (quoR x y u v r s)
        rw [hzz] at HK ⊢
        exact Quotient_of (Lib.hid fun W => ofTwoBall_ok r s HE h hx hy h1 g hu hv h2 (Lib.hid HK) W)
    · rw [if_neg (by rw [h2]; simp)]
      exact Quotient_of (Lib.hid fun W => ofTwoBall_bad2 r s h hx hy h1 g hu hv h2 W)
  · rw [if_neg (by rw [h1]; simp)]
    exact Quotient_of (Lib.hid fun W => ofTwoBall_bad1 r s h hx hy h1 W)

end Go.Proofs.Ythkooiopiaakbaa
