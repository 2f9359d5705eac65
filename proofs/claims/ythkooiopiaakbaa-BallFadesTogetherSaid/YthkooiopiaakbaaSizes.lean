/- The contracts of sizes, energies and parts of package ball. -/
import Derived.Test.YthkooiopiaakbaaTimes
namespace Go.Proofs.Ythkooiopiaakbaa
open Go.RowKit Go.Lib
attribute [local go_sem] run_store_float run_store_complex

def szLo (x y r : Int) : Int := max (dn x y - r) 0
def szHi (x y r : Int) : Int := upw x y + r

theorem dn_bd {x y : Int} (hx : Sm 67108864 x) (hy : Sm 67108864 y) : 0 ≤ dn x y ∧ dn x y ≤ 134217728 := by
  have hs := sq2_bd hx hy
  exact ⟨(rti_spec _ hs.1 (by omega)).1, rti_le hs.1 (by omega) (by omega) (by omega)⟩

set_option maxHeartbeats 400000 in
theorem sizes_any {a b : Nat} {x y r : Int} (h : Cp a b x y) (hc : ckB x y r = 0) (w : World) :
    Calls Try.prog 131 #[.agg #[.complex .f64 a b, .int .i64 r]] w (Mem (.agg #[.int .i64 (szLo x y r), .int .i64 (szHi x y r)]) w) := by
  obtain ⟨hx, hy, hr0, hr⟩ := ckB_ok hc
  have b1 := upw_bd hx hy
  have b2 := dn_bd hx hy
  have HU := Lib.hid (fun w => up_mk h ⟨by have := hx.1; omega, by have := hx.2; omega⟩ ⟨by have := hy.1; omega, by have := hy.2; omega⟩ w)
  have HD := Lib.hid (fun w => down_mk h ⟨by have := hx.1; omega, by have := hx.2; omega⟩ ⟨by have := hy.1; omega, by have := hy.2; omega⟩ w)
  clear h hc hx hy
  unfold szLo szHi
  generalize upw x y = ua at *
  generalize dn x y = da at *
  have h1 : IntKind.i64.wrap (da - r) = da - r := IntWalk.i64_in _ (by omega)
  have h2 : IntKind.i64.wrap (ua + r) = ua + r := IntWalk.i64_in _ (by omega)
  have hmx : (if da - r < 0 then (0 : Int) else da - r) = max (da - r) 0 := by split <;> omega
  generalize max (da - r) 0 = mx at *
  go_enter Try.func131, Try.ntmps131
  go_wp2_with fail
  go_region_held3 (fun w' => w'.cell? ⟨w.heap.size, 0, none⟩ = some (.complex .f64 a b) ∧ w'.cell? ⟨w.heap.size, 1, none⟩ = some (.int .i64 r)) (simp [*, go_sem]) (first | (go_at_call 99; refine (HU.out _).mono ?_; rintro e w4 ⟨rfl, n1, rfl⟩) | (go_at_call 105; refine (HD.out _).mono ?_; rintro e w4 ⟨rfl, n2, rfl⟩))
  all_goals
    go_wp2_with fail
    refine bodyPost_ret (v := .agg #[.int .i64 mx, .int .i64 (ua + r)]) (by simp [results, Try.results131, go_sem]) rfl ⟨rfl, ?_⟩
    repeat (first | exact Below.refl _ _ | refine Below.drew ?_ | refine below_drewN ?_ _ | refine Below.setCell ?_ (by simp <;> omega) _ | refine Below.alloc ?_ (by simp <;> omega) _)

/-- A range, or zero values, and an error. -/
def rngV (lo hi ze : Int) : Value := .tuple #[.agg #[.int .i64 lo, .int .i64 hi], .int .i64 ze]

set_option maxHeartbeats 1000000 in
theorem ofOneRange_bad {a b : Nat} {x y : Int} (r : Int) (h : Cp a b x y) (hx : InF x) (hy : InF y) (hc : ckB x y r = 2) (F : Value) (w : World) :
    Calls Try.prog 129 #[.agg #[.complex .f64 a b, .int .i64 r], F] w (Mem (rngV 0 0 2) w) := by
  have HC := fun w => CheckBall_any r h hx hy w
  rw [hc] at HC
  replace HC := Lib.hid HC
  clear h hx hy hc
  unfold rngV
  go_enter Try.func129, Try.ntmps129
  go_wp2_with fail
  refine (HC.out _).mono ?_
  rintro e w1 ⟨rfl, hb⟩
  have a0 : At w1 w.heap.size #[.complex .f64 a b, .int .i64 r] := At.below ((At.new _ _ _).old _) hb
  have a1 : At w1 (w.heap.size + 1) #[.int .i64 0, .int .i64 0] := At.below (At.new' _ _ _ (by simp)) hb
  have hbw : Below w.heap.size w w1 := (((Below.refl _ _).alloc (Nat.le_refl _) _).alloc (by simp) _).trans (hb.mono (by simp; omega))
  have q0 := a0.cell; have f0 := a0.frozen; have z0 := a0.lt
  have q1 := a1.cell; have f1 := a1.frozen; have z1 := a1.lt
  clear a0 a1
  go_wp2_with fail
  refine bodyPost_ret (v := .tuple #[.agg #[.int .i64 0, .int .i64 0], .int .i64 2]) (by simp [results, Try.results129, go_sem, q1, z1]) rfl ⟨rfl, ?_⟩
  repeat (first | exact hbw | refine Below.drew ?_ | refine below_drewN ?_ _ | refine Below.setCell ?_ (by simp <;> omega) _ | refine Below.alloc ?_ (by simp <;> omega) _)

set_option maxHeartbeats 1000000 in
theorem ofOneRange_ok {a b : Nat} {x y : Int} (r : Int) (h : Cp a b x y) (hx : InF x) (hy : InF y) (hc : ckB x y r = 0) {K : FuncId} {caps : Array Value} (HE : Hid (Ent K)) {lo hi ze : Int} {w : World}
    (HK : Hid (∀ W, Below w.heap.size w W → Calls Try.prog K (#[.agg #[.complex .f64 a b, .int .i64 r]] ++ caps) W (Mem (rngV lo hi ze) W))) :
    Calls Try.prog 129 #[.agg #[.complex .f64 a b, .int .i64 r], .func (.func K) #[] caps] w (Mem (rngV lo hi ze) w) := by
  have HC := fun w => CheckBall_any r h hx hy w
  rw [hc] at HC
  replace HC := Lib.hid HC
  clear h hx hy hc
  have HE' : ∀ args w, (callFunc K args).run Try.prog w = .ok (.enter K args) w := HE.out
  go_enter Try.func129, Try.ntmps129
  go_wp2_with fail
  refine (HC.out _).mono ?_
  rintro e w1 ⟨rfl, hb⟩
  have a0 : At w1 w.heap.size #[.complex .f64 a b, .int .i64 r] := At.below ((At.new _ _ _).old _) hb
  have a1 : At w1 (w.heap.size + 1) #[.int .i64 0, .int .i64 0] := At.below (At.new' _ _ _ (by simp)) hb
  have hbw : Below w.heap.size w w1 := (((Below.refl _ _).alloc (Nat.le_refl _) _).alloc (by simp) _).trans (hb.mono (by simp; omega))
  have q0 := a0.cell; have f0 := a0.frozen; have z0 := a0.lt
  clear a0
  go_wp2_with fail
  refine (HK.out _ hbw).mono ?_
  rintro e w2 ⟨rfl, hb2⟩
  have a3 := a1.below hb2
  have hbw2 : Below w.heap.size w w2 := hbw.trans (hb2.mono hbw.size)
  have q1 := a3.cell; have f1 := a3.frozen; have z1 := a3.lt
  clear a1 a3 q0 f0 z0
  unfold rngV
  go_wp2_with fail
  refine bodyPost_ret (v := .tuple #[.agg #[.int .i64 lo, .int .i64 hi], .int .i64 ze]) (by simp [results, Try.results129, go_sem, q1]) rfl ⟨rfl, ?_⟩
  repeat (first | exact hbw2 | refine Below.drew ?_ | refine below_drewN ?_ _ | refine Below.setCell ?_ (by simp <;> omega) _ | refine Below.alloc ?_ (by simp <;> omega) _)

set_option maxHeartbeats 400000 in
theorem SizeOf1_any {a b : Nat} {x y r : Int} (h : Cp a b x y) (hc : ckB x y r = 0) (w : World) :
    Calls Try.prog 136 #[.agg #[.complex .f64 a b, .int .i64 r]] w (Mem (rngV (szLo x y r) (szHi x y r) 0) w) := by
  have HS := Lib.hid (fun w => sizes_any h hc w)
  clear h hc
  unfold rngV
  generalize szLo x y r = lo at *
  generalize szHi x y r = hi at *
  go_enter Try.func136, Try.ntmps136
  go_wp2_with fail
  refine (HS.out _).mono ?_
  rintro e w1 ⟨rfl, hb⟩
  have a1 : At w1 (w.heap.size + 1) #[.int .i64 0, .int .i64 0] := At.below (At.new' _ _ _ (by simp)) hb
  have hbw : Below w.heap.size w w1 := (((Below.refl _ _).alloc (Nat.le_refl _) _).alloc (by simp) _).trans (hb.mono (by simp; omega))
  have q1 := a1.cell; have f1 := a1.frozen; have z1 := a1.lt
  clear a1
  go_wp2_with fail
  refine bodyPost_ret (v := .tuple #[.agg #[.int .i64 lo, .int .i64 hi], .int .i64 0]) (by simp [results, Try.results136, go_sem, q1]) rfl ⟨rfl, ?_⟩
  repeat (first | exact hbw | refine Below.drew ?_ | refine below_drewN ?_ _ | refine Below.setCell ?_ (by simp <;> omega) _ | refine Below.alloc ?_ (by simp <;> omega) _)

set_option maxHeartbeats 400000 in
theorem SizeOf_of {a b : Nat} {r lo hi ze : Int} {w : World}
    (HK : Hid (∀ W, Calls Try.prog 129 #[.agg #[.complex .f64 a b, .int .i64 r], .func (.func 136) #[] #[]] W (Mem (rngV lo hi ze) W))) :
    Calls Try.prog 71 #[.agg #[.complex .f64 a b, .int .i64 r]] w (Mem (rngV lo hi ze) w) := by
  go_enter Try.func71, Try.ntmps71
  go_wp2_with fail
  refine (HK.out _).mono ?_
  rintro e w1 ⟨rfl, hb⟩
  have a1 : At w1 (w.heap.size + 1) #[.int .i64 0, .int .i64 0] := At.below (At.new' _ _ _ (by simp)) hb
  have hbw : Below w.heap.size w w1 := (((Below.refl _ _).alloc (Nat.le_refl _) _).alloc (by simp) _).trans (hb.mono (by simp; omega))
  have q1 := a1.cell; have f1 := a1.frozen; have z1 := a1.lt
  clear a1
  unfold rngV
  go_wp2_with fail
  refine bodyPost_ret (v := .tuple #[.agg #[.int .i64 lo, .int .i64 hi], .int .i64 ze]) (by simp [results, Try.results71, go_sem, q1]) rfl ⟨rfl, ?_⟩
  repeat (first | exact hbw | refine Below.drew ?_ | refine below_drewN ?_ _ | refine Below.setCell ?_ (by simp <;> omega) _ | refine Below.alloc ?_ (by simp <;> omega) _)

theorem SizeOf_any {a b : Nat} {x y : Int} (r : Int) (h : Cp a b x y) (hx : InF x) (hy : InF y) (w : World) :
    Calls Try.prog 71 #[.agg #[.complex .f64 a b, .int .i64 r]] w (Mem (if ckB x y r = 0 then rngV (szLo x y r) (szHi x y r) 0 else rngV 0 0 2) w) := by
  rcases ckB_cases x y r with h1 | h1
  · rw [if_pos h1]
    exact SizeOf_of (Lib.hid fun W => ofOneRange_ok r h hx hy h1 (Lib.hid (ent_of Try.func136 (by kernel_rfl) rfl)) (Lib.hid fun W _ => SizeOf1_any h h1 W))
  · rw [if_neg (by rw [h1]; simp)]
    exact SizeOf_of (Lib.hid fun W => ofOneRange_bad r h hx hy h1 _ W)

end Go.Proofs.Ythkooiopiaakbaa
