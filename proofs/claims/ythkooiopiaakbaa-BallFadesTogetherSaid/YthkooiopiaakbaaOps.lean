/- The contracts of the operations of package ball on discs. -/
import Derived.Test.YthkooiopiaakbaaOne
namespace Go.Proofs.Ythkooiopiaakbaa
open Go.RowKit Go.Lib
attribute [local go_sem] run_store_float run_store_complex

theorem ckB_ok {x y r : Int} (h : ckB x y r = 0) : Sm 67108864 x ∧ Sm 67108864 y ∧ 0 ≤ r ∧ r ≤ 67108864 := by
  unfold ckB szB at h
  split at h
  · rename_i hc
    simp at hc
    exact ⟨⟨hc.1.1.1, hc.1.1.2⟩, ⟨hc.1.2.1, hc.1.2.2⟩, hc.2.1, hc.2.2⟩
  · cases h

theorem Sm.inF {M x : Int} (h : Sm M x) (hM : M ≤ 9007199254740992) : InF x := ⟨by have := h.1; omega, by have := h.2; omega⟩

/-- What disc.ball gives, as a pair. -/
theorem resB_eq (x y r : Int) : ∃ za zb zr ze, resB x y r = balV za zb zr ze := by
  unfold resB; split
  · exact ⟨_, _, _, _, rfl⟩
  · exact ⟨_, _, _, _, rfl⟩

/-- Three new blocks, then a call that makes memory. -/
theorem three_new {w w5 : World} {c0 c1 c2 : Array Value} {t0 t1 t2 : TypeId} (hb : Below (((w.alloc (.cells c0 t0)).alloc (.cells c1 t1)).alloc (.cells c2 t2)).heap.size (((w.alloc (.cells c0 t0)).alloc (.cells c1 t1)).alloc (.cells c2 t2)) w5) :
    At w5 w.heap.size c0 ∧ At w5 (w.heap.size + 1) c1 ∧ At w5 (w.heap.size + 1 + 1) c2 ∧ Below w.heap.size w w5 :=
  ⟨At.below (((At.new _ _ _).old _).old _) hb, At.below ((At.new' _ _ _ (by simp)).old _) hb, At.below (At.new' _ _ _ (by simp)) hb,
    ((((Below.refl _ _).alloc (Nat.le_refl _) _).alloc (by simp) _).alloc (by simp; omega) _).trans (hb.mono (by simp; omega))⟩

theorem three_new_d {w w5 : World} {c0 c1 c2 : Array Value} {t0 t1 t2 : TypeId} (hb : Below (((w.alloc (.cells c0 t0)).alloc (.cells c1 t1)).alloc (.cells c2 t2)).drew.heap.size (((w.alloc (.cells c0 t0)).alloc (.cells c1 t1)).alloc (.cells c2 t2)).drew w5) :
    At w5 w.heap.size c0 ∧ At w5 (w.heap.size + 1) c1 ∧ At w5 (w.heap.size + 1 + 1) c2 ∧ Below w.heap.size w w5 :=
  three_new (t0 := t0) (t1 := t1) (t2 := t2) ⟨hb.os, hb.tape, hb.output, hb.size, hb.block⟩

set_option maxHeartbeats 400000 in
theorem Plus1_any {a b c d : Nat} {x y u v r s : Int} (h : Cp a b x y) (hc : ckB x y r = 0) (g : Cp c d u v) (gc : ckB u v s = 0) (w : World) :
    Calls Try.prog 85 #[.agg #[.complex .f64 a b, .int .i64 r], .agg #[.complex .f64 c d, .int .i64 s]] w (Mem (resB (x + u) (y + v) (r + s)) w) := by
  obtain ⟨hx, hy, hr0, hr⟩ := ckB_ok hc
  obtain ⟨hu, hv, hs0, hs⟩ := ckB_ok gc
  have i1 : InF (x + u) := ⟨by have := hx.1; have := hu.1; have := hu.2; omega, by have := hx.2; have := hu.1; have := hu.2; omega⟩
  have i2 : InF (y + v) := ⟨by have := hy.1; have := hv.1; have := hv.2; omega, by have := hy.2; have := hv.1; have := hv.2; omega⟩
  obtain ⟨p, q, hpq, hm⟩ := plus_any h g (hx.inF (by decide)) (hy.inF (by decide)) (hu.inF (by decide)) (hv.inF (by decide)) i1 i2
  have HM := Lib.hid hm
  have HB := fun w => discBall_any (r + s) hpq i1 i2 w
  obtain ⟨za, zb, zr, ze, hz⟩ := resB_eq (x + u) (y + v) (r + s)
  rw [hz] at HB ⊢
  replace HB := Lib.hid HB
  clear hm hpq hz h g hc gc hx hy hu hv i1 i2
  unfold balV at *
  go_enter Try.func85, Try.ntmps85
  go_wp2_with fail
  have hw : IntKind.i64.wrap (r + s) = r + s := IntWalk.i64_in _ (by omega)
  go_region_held3 (fun w' => w'.cell? ⟨w.heap.size, 0, none⟩ = some (.complex .f64 a b) ∧ w'.cell? ⟨w.heap.size, 1, none⟩ = some (.int .i64 r) ∧ w'.cell? ⟨w.heap.size + 1, 0, none⟩ = some (.complex .f64 c d) ∧ w'.cell? ⟨w.heap.size + 1, 1, none⟩ = some (.int .i64 s)) (simp [*, go_sem]) (first | (go_at_call 86; refine (HM.out _).mono ?_; rintro e w4 ⟨rfl, rfl⟩) | (go_at_call 75; refine (HB.out _).mono ?_; rintro e w5 ⟨rfl, hb⟩; obtain ⟨a0, a1, a2, hbw⟩ := three_new_d hb; have q0 := a0.cell; have q1 := a1.cell; have q2 := a2.cell; have f2 := a2.frozen; have z2 := a2.lt; clear a0 a1 a2 hb))
  go_wp2_with fail
  refine bodyPost_ret (v := .tuple #[.agg #[.complex .f64 za zb, .int .i64 zr], .int .i64 ze]) (by simp [results, Try.results85, go_sem, q2]) rfl ⟨rfl, ?_⟩
  repeat (first | exact hbw | refine Below.drew ?_ | refine below_drewN ?_ _ | refine Below.setCell ?_ (by simp; omega) _ | refine Below.alloc ?_ (by simp; omega) _)

set_option maxHeartbeats 400000 in
theorem Minus1_any {a b c d : Nat} {x y u v r s : Int} (h : Cp a b x y) (hc : ckB x y r = 0) (g : Cp c d u v) (gc : ckB u v s = 0) (w : World) :
    Calls Try.prog 87 #[.agg #[.complex .f64 a b, .int .i64 r], .agg #[.complex .f64 c d, .int .i64 s]] w (Mem (resB (x - u) (y - v) (r + s)) w) := by
  obtain ⟨hx, hy, hr0, hr⟩ := ckB_ok hc
  obtain ⟨hu, hv, hs0, hs⟩ := ckB_ok gc
  have i1 : InF (x - u) := ⟨by have := hx.1; have := hu.1; have := hu.2; omega, by have := hx.2; have := hu.1; have := hu.2; omega⟩
  have i2 : InF (y - v) := ⟨by have := hy.1; have := hv.1; have := hv.2; omega, by have := hy.2; have := hv.1; have := hv.2; omega⟩
  obtain ⟨p, q, hpq, hm⟩ := minus_any h g (hx.inF (by decide)) (hy.inF (by decide)) (hu.inF (by decide)) (hv.inF (by decide)) i1 i2
  have HM := Lib.hid hm
  have HB := fun w => discBall_any (r + s) hpq i1 i2 w
  obtain ⟨za, zb, zr, ze, hz⟩ := resB_eq (x - u) (y - v) (r + s)
  rw [hz] at HB ⊢
  replace HB := Lib.hid HB
  clear hm hpq hz h g hc gc hx hy hu hv i1 i2
  unfold balV at *
  go_enter Try.func87, Try.ntmps87
  go_wp2_with fail
  have hw : IntKind.i64.wrap (r + s) = r + s := IntWalk.i64_in _ (by omega)
  go_region_held3 (fun w' => w'.cell? ⟨w.heap.size, 0, none⟩ = some (.complex .f64 a b) ∧ w'.cell? ⟨w.heap.size, 1, none⟩ = some (.int .i64 r) ∧ w'.cell? ⟨w.heap.size + 1, 0, none⟩ = some (.complex .f64 c d) ∧ w'.cell? ⟨w.heap.size + 1, 1, none⟩ = some (.int .i64 s)) (simp [*, go_sem]) (first | (go_at_call 88; refine (HM.out _).mono ?_; rintro e w4 ⟨rfl, rfl⟩) | (go_at_call 75; refine (HB.out _).mono ?_; rintro e w5 ⟨rfl, hb⟩; obtain ⟨a0, a1, a2, hbw⟩ := three_new_d hb; have q0 := a0.cell; have q1 := a1.cell; have q2 := a2.cell; have f2 := a2.frozen; have z2 := a2.lt; clear a0 a1 a2 hb))
  go_wp2_with fail
  refine bodyPost_ret (v := .tuple #[.agg #[.complex .f64 za zb, .int .i64 zr], .int .i64 ze]) (by simp [results, Try.results87, go_sem, q2]) rfl ⟨rfl, ?_⟩
  repeat (first | exact hbw | refine Below.drew ?_ | refine below_drewN ?_ _ | refine Below.setCell ?_ (by simp; omega) _ | refine Below.alloc ?_ (by simp; omega) _)

set_option maxHeartbeats 400000 in
theorem Plus_of {a b c d : Nat} {r s : Int} {za zb : Nat} {zr ze : Int} {w : World}
    (HK : Hid (∀ W, Calls Try.prog 84 #[.agg #[.complex .f64 a b, .int .i64 r], .agg #[.complex .f64 c d, .int .i64 s], .func (.func 85) #[] #[]] W (Mem (balV za zb zr ze) W))) :
    Calls Try.prog 24 #[.agg #[.complex .f64 a b, .int .i64 r], .agg #[.complex .f64 c d, .int .i64 s]] w (Mem (balV za zb zr ze) w) := by
  go_enter Try.func24, Try.ntmps24
  go_wp2_with fail
  refine (HK.out _).mono ?_
  rintro e w5 ⟨rfl, hb⟩
  obtain ⟨a0, a1, a2, hbw⟩ := three_new hb
  have q2 := a2.cell; have f2 := a2.frozen; have z2 := a2.lt
  clear a0 a1 a2 hb
  unfold balV
  go_wp2_with fail
  refine bodyPost_ret (v := .tuple #[.agg #[.complex .f64 za zb, .int .i64 zr], .int .i64 ze]) (by simp [results, Try.results24, go_sem, q2]) rfl ⟨rfl, ?_⟩
  repeat (first | exact hbw | refine Below.drew ?_ | refine below_drewN ?_ _ | refine Below.setCell ?_ (by simp; omega) _ | refine Below.alloc ?_ (by simp; omega) _)

set_option maxHeartbeats 400000 in
theorem Minus_of {a b c d : Nat} {r s : Int} {za zb : Nat} {zr ze : Int} {w : World}
    (HK : Hid (∀ W, Calls Try.prog 84 #[.agg #[.complex .f64 a b, .int .i64 r], .agg #[.complex .f64 c d, .int .i64 s], .func (.func 87) #[] #[]] W (Mem (balV za zb zr ze) W))) :
    Calls Try.prog 25 #[.agg #[.complex .f64 a b, .int .i64 r], .agg #[.complex .f64 c d, .int .i64 s]] w (Mem (balV za zb zr ze) w) := by
  go_enter Try.func25, Try.ntmps25
  go_wp2_with fail
  refine (HK.out _).mono ?_
  rintro e w5 ⟨rfl, hb⟩
  obtain ⟨a0, a1, a2, hbw⟩ := three_new hb
  have q2 := a2.cell; have f2 := a2.frozen; have z2 := a2.lt
  clear a0 a1 a2 hb
  unfold balV
  go_wp2_with fail
  refine bodyPost_ret (v := .tuple #[.agg #[.complex .f64 za zb, .int .i64 zr], .int .i64 ze]) (by simp [results, Try.results25, go_sem, q2]) rfl ⟨rfl, ?_⟩
  repeat (first | exact hbw | refine Below.drew ?_ | refine below_drewN ?_ _ | refine Below.setCell ?_ (by simp; omega) _ | refine Below.alloc ?_ (by simp; omega) _)

/-- Plus, for whole parts: the error of the first ball, of the second one, or what comes of both. -/
theorem Plus_any {a b c d : Nat} {x y u v : Int} (r s : Int) (h : Cp a b x y) (hx : InF x) (hy : InF y) (g : Cp c d u v) (hu : InF u) (hv : InF v) (w : World) :
    Calls Try.prog 24 #[.agg #[.complex .f64 a b, .int .i64 r], .agg #[.complex .f64 c d, .int .i64 s]] w (Mem (if ckB x y r = 0 ∧ ckB u v s = 0 then resB (x + u) (y + v) (r + s) else balV 0 0 0 2) w) := by
  rcases ckB_cases x y r with h1 | h1
  · rcases ckB_cases u v s with h2 | h2
    · rw [if_pos ⟨h1, h2⟩]
      have HK := fun W => Plus1_any h h1 g h2 W
      obtain ⟨za, zb, zr, ze, hz⟩ := resB_eq (x + u) (y + v) (r + s)
      rw [hz] at HK ⊢
      exact Plus_of (Lib.hid fun W => ofTwoBall_ok r s (Lib.hid (ent_of Try.func85 (by kernel_rfl) rfl)) h hx hy h1 g hu hv h2 (Lib.hid HK) W)
    · rw [if_neg (by rw [h2]; simp)]
      exact Plus_of (Lib.hid fun W => ofTwoBall_bad2 r s h hx hy h1 g hu hv h2 W)
  · rw [if_neg (by rw [h1]; simp)]
    exact Plus_of (Lib.hid fun W => ofTwoBall_bad1 r s h hx hy h1 W)

/-- Minus, for whole parts: the error of the first ball, of the second one, or what comes of both. -/
theorem Minus_any {a b c d : Nat} {x y u v : Int} (r s : Int) (h : Cp a b x y) (hx : InF x) (hy : InF y) (g : Cp c d u v) (hu : InF u) (hv : InF v) (w : World) :
    Calls Try.prog 25 #[.agg #[.complex .f64 a b, .int .i64 r], .agg #[.complex .f64 c d, .int .i64 s]] w (Mem (if ckB x y r = 0 ∧ ckB u v s = 0 then resB (x - u) (y - v) (r + s) else balV 0 0 0 2) w) := by
  rcases ckB_cases x y r with h1 | h1
  · rcases ckB_cases u v s with h2 | h2
    · rw [if_pos ⟨h1, h2⟩]
      have HK := fun W => Minus1_any h h1 g h2 W
      obtain ⟨za, zb, zr, ze, hz⟩ := resB_eq (x - u) (y - v) (r + s)
      rw [hz] at HK ⊢
      exact Minus_of (Lib.hid fun W => ofTwoBall_ok r s (Lib.hid (ent_of Try.func87 (by kernel_rfl) rfl)) h hx hy h1 g hu hv h2 (Lib.hid HK) W)
    · rw [if_neg (by rw [h2]; simp)]
      exact Minus_of (Lib.hid fun W => ofTwoBall_bad2 r s h hx hy h1 g hu hv h2 W)
  · rw [if_neg (by rw [h1]; simp)]
    exact Minus_of (Lib.hid fun W => ofTwoBall_bad1 r s h hx hy h1 W)

end Go.Proofs.Ythkooiopiaakbaa
