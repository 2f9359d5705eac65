/- The contracts of ofOne and ofTwo of package ball. -/
import Derived.Test.YthkooiopiaakbaaCheck
import Derived.Laws.EntriesVeiled
namespace Go.Proofs.Ythkooiopiaakbaa
open Go.RowKit Go.Lib
attribute [local go_sem] run_store_float run_store_complex

set_option maxHeartbeats 1000000 in
theorem ofOneBall_bad {a b : Nat} {x y : Int} (r : Int) (h : Cp a b x y) (hx : InF x) (hy : InF y) (hc : ckB x y r = 2) (F : Value) (w : World) :
    Calls Try.prog 89 #[.agg #[.complex .f64 a b, .int .i64 r], F] w (Mem (.tuple #[.agg #[.complex .f64 0 0, .int .i64 0], .int .i64 2]) w) := by
  have HC := fun w => CheckBall_any r h hx hy w
  rw [hc] at HC
  replace HC := Lib.hid HC
  clear h hx hy hc
  go_enter Try.func89, Try.ntmps89
  go_wp2_with fail
  refine (HC.out _).mono ?_
  rintro e w1 ⟨rfl, hb⟩
  have a0 : At w1 w.heap.size #[.complex .f64 a b, .int .i64 r] := At.below ((At.new _ _ _).old _) hb
  have a1 : At w1 (w.heap.size + 1) #[.complex .f64 0 0, .int .i64 0] := At.below (At.new' _ _ _ (by simp)) hb
  have hbw : Below w.heap.size w w1 := (((Below.refl _ _).alloc (Nat.le_refl _) _).alloc (by simp) _).trans (hb.mono (by simp; omega))
  have q0 := a0.cell; have f0 := a0.frozen; have z0 := a0.lt
  have q1 := a1.cell; have f1 := a1.frozen; have z1 := a1.lt
  clear a0 a1
  go_wp2_with fail
  refine bodyPost_ret (v := .tuple #[.agg #[.complex .f64 0 0, .int .i64 0], .int .i64 2]) (by simp [results, Try.results89, go_sem, q1, z1]) rfl ⟨rfl, ?_⟩
  repeat (first | exact hbw | refine Below.drew ?_ | refine below_drewN ?_ _ | refine Below.setCell ?_ (by simp) _ | refine Below.alloc ?_ (by simp; omega) _)

/-- A ball, or zero values, and an error. -/
def balV (za zb : Nat) (zr ze : Int) : Value := .tuple #[.agg #[.complex .f64 za zb, .int .i64 zr], .int .i64 ze]

/-- Function K is one that has a body. -/
def Ent (K : FuncId) : Prop := ∀ args w, (callFunc K args).run Try.prog w = .ok (.enter K args) w

set_option maxHeartbeats 1000000 in
theorem ofOneBall_ok {a b : Nat} {x y : Int} (r : Int) (h : Cp a b x y) (hx : InF x) (hy : InF y) (hc : ckB x y r = 0) {K : FuncId} {caps : Array Value} (HE : Hid (Ent K)) {za zb : Nat} {zr ze : Int} {w : World}
    (HK : Hid (∀ W, Below w.heap.size w W → Calls Try.prog K (#[.agg #[.complex .f64 a b, .int .i64 r]] ++ caps) W (Mem (balV za zb zr ze) W))) :
    Calls Try.prog 89 #[.agg #[.complex .f64 a b, .int .i64 r], .func (.func K) #[] caps] w (Mem (balV za zb zr ze) w) := by
  have HC := fun w => CheckBall_any r h hx hy w
  rw [hc] at HC
  replace HC := Lib.hid HC
  clear h hx hy hc
  have HE' : ∀ args w, (callFunc K args).run Try.prog w = .ok (.enter K args) w := HE.out
  go_enter Try.func89, Try.ntmps89
  go_wp2_with fail
  refine (HC.out _).mono ?_
  rintro e w1 ⟨rfl, hb⟩
  have a0 : At w1 w.heap.size #[.complex .f64 a b, .int .i64 r] := At.below ((At.new _ _ _).old _) hb
  have a1 : At w1 (w.heap.size + 1) #[.complex .f64 0 0, .int .i64 0] := At.below (At.new' _ _ _ (by simp)) hb
  have hbw : Below w.heap.size w w1 := (((Below.refl _ _).alloc (Nat.le_refl _) _).alloc (by simp) _).trans (hb.mono (by simp; omega))
  have q0 := a0.cell; have f0 := a0.frozen; have z0 := a0.lt
  clear a0
  go_wp2_with fail
  refine (HK.out _ hbw).mono ?_
  rintro e w2 ⟨rfl, hb2⟩
  have a3 := a1.below hb2
  have hbw2 : Below w.heap.size w w2 := hbw.trans (hb2.mono hbw.size)
  have q1 := a3.cell; have f1 := a3.frozen; have z1 := a3.lt
  clear a1 a3 q0 f0 z0
  unfold balV
  go_wp2_with fail
  refine bodyPost_ret (v := .tuple #[.agg #[.complex .f64 za zb, .int .i64 zr], .int .i64 ze]) (by simp [results, Try.results89, go_sem, q1]) rfl ⟨rfl, ?_⟩
  repeat (first | exact hbw2 | refine Below.drew ?_ | refine below_drewN ?_ _ | refine Below.setCell ?_ (by simp) _ | refine Below.alloc ?_ (by simp; omega) _)

/-! ofTwo: a closure within a closure. -/
theorem ent_of {f : FuncId} {fn : Func} {c : Code} (hf : Try.prog.funcs[f]? = some fn) (hname : (fn.name == "runtime.NumGoroutine") = false) (hb : fn.body = some c) : Ent f := by
  intro args w
  have h1 : fn.name ≠ "runtime.NumGoroutine" := by simpa using hname
  simp [callFunc, hf, h1, hb, mark]

set_option maxHeartbeats 1000000 in
theorem ofTwoBall_in {a b c d : Nat} {r s : Int} {K : FuncId} (HE : Hid (Ent K)) {za zb : Nat} {zr ze : Int} {w : World} {p q : Nat}
    (HK : Hid (∀ W, Calls Try.prog K #[.agg #[.complex .f64 a b, .int .i64 r], .agg #[.complex .f64 c d, .int .i64 s]] W (Mem (balV za zb zr ze) W)))
    (hp : At w p #[.func (.func K) #[] #[]]) (hq : At w q #[.complex .f64 a b, .int .i64 r]) :
    Calls Try.prog 141 #[.agg #[.complex .f64 c d, .int .i64 s], .pointer (some ⟨p, 0, none⟩), .pointer (some ⟨q, 0, none⟩)] w (Mem (balV za zb zr ze) w) := by
  have HE' : ∀ args w, (callFunc K args).run Try.prog w = .ok (.enter K args) w := HE.out
  have p1 := hp.cell; have p2 := hp.lt
  have q1 := hq.cell; have q2 := hq.lt
  clear hp hq
  go_enter Try.func141, Try.ntmps141
  go_wp2_with fail
  refine (HK.out _).mono ?_
  rintro e w2 ⟨rfl, hb2⟩
  have hbw2 : Below w.heap.size w w2 := (((Below.refl _ _).alloc (Nat.le_refl _) _).alloc (by simp) _).trans (hb2.mono (by simp; omega))
  have a3 : At w2 (w.heap.size + 1) #[.complex .f64 0 0, .int .i64 0] := At.below (At.new' _ _ _ (by simp)) hb2
  have r1 := a3.cell; have f1 := a3.frozen; have z1 := a3.lt
  clear a3 p1 p2 q1 q2
  unfold balV
  go_wp2_with fail
  refine bodyPost_ret (v := .tuple #[.agg #[.complex .f64 za zb, .int .i64 zr], .int .i64 ze]) (by simp [results, Try.results141, go_sem, r1]) rfl ⟨rfl, ?_⟩
  repeat (first | exact hbw2 | refine Below.drew ?_ | refine below_drewN ?_ _ | refine Below.setCell ?_ (by simp) _ | refine Below.alloc ?_ (by simp; omega) _)

/-- The closure around it: of the first ball, with the second one and the operation captured. V: what comes of the second ball. -/
theorem ofTwoBall_mid_of {a b c d : Nat} {r s : Int} {K : FuncId} {za zb : Nat} {zr ze : Int} {w : World} {p q : Nat}
    (HK : Hid (∀ W x, At W p #[.func (.func K) #[] #[]] → At W x #[.complex .f64 a b, .int .i64 r] →
      Calls Try.prog 89 #[.agg #[.complex .f64 c d, .int .i64 s], .func (.func 141) #[] #[.pointer (some ⟨p, 0, none⟩), .pointer (some ⟨x, 0, none⟩)]] W (Mem (balV za zb zr ze) W)))
    (hp : At w p #[.func (.func K) #[] #[]]) (hq : At w q #[.complex .f64 c d, .int .i64 s]) :
    Calls Try.prog 140 #[.agg #[.complex .f64 a b, .int .i64 r], .pointer (some ⟨q, 0, none⟩), .pointer (some ⟨p, 0, none⟩)] w (Mem (balV za zb zr ze) w) := by
  have HP := Lib.hid hp
  have q1 := hq.cell; have q2 := hq.lt
  clear hp hq
  go_enter Try.func140, Try.ntmps140
  go_wp2_with fail
  refine (HK.out _ _ ((HP.out.old _).old _) ((At.new _ _ _).old _)).mono ?_
  rintro e w2 ⟨rfl, hb2⟩
  have hbw2 : Below w.heap.size w w2 := (((Below.refl _ _).alloc (Nat.le_refl _) _).alloc (by simp) _).trans (hb2.mono (by simp; omega))
  have a3 : At w2 (w.heap.size + 1) #[.complex .f64 0 0, .int .i64 0] := At.below (At.new' _ _ _ (by simp)) hb2
  have r1 := a3.cell; have f1 := a3.frozen; have z1 := a3.lt
  clear a3 q1 q2
  unfold balV
  go_wp2_with fail
  refine bodyPost_ret (v := .tuple #[.agg #[.complex .f64 za zb, .int .i64 zr], .int .i64 ze]) (by simp [results, Try.results140, go_sem, r1]) rfl ⟨rfl, ?_⟩
  repeat (first | exact hbw2 | refine Below.drew ?_ | refine below_drewN ?_ _ | refine Below.setCell ?_ (by simp) _ | refine Below.alloc ?_ (by simp; omega) _)

theorem ofTwoBall_of {a b c d : Nat} {r s : Int} {K : FuncId} {za zb : Nat} {zr ze : Int} {w : World}
    (HK : Hid (∀ W p q, At W p #[.func (.func K) #[] #[]] → At W q #[.complex .f64 c d, .int .i64 s] →
      Calls Try.prog 89 #[.agg #[.complex .f64 a b, .int .i64 r], .func (.func 140) #[] #[.pointer (some ⟨q, 0, none⟩), .pointer (some ⟨p, 0, none⟩)]] W (Mem (balV za zb zr ze) W))) :
    Calls Try.prog 84 #[.agg #[.complex .f64 a b, .int .i64 r], .agg #[.complex .f64 c d, .int .i64 s], .func (.func K) #[] #[]] w (Mem (balV za zb zr ze) w) := by
  go_enter Try.func84, Try.ntmps84
  go_wp2_with fail
  refine (HK.out _ _ _ ((At.new' _ _ _ (by simp)).old _) (((At.new' _ _ _ (by simp)).old _).old _)).mono ?_
  rintro e w2 ⟨rfl, hb2⟩
  have hbw2 : Below w.heap.size w w2 := (((((Below.refl _ _).alloc (Nat.le_refl _) _).alloc (by simp) _).alloc (by simp; omega) _).alloc (by simp; omega) _).trans (hb2.mono (by simp; omega))
  have a3 : At w2 (w.heap.size + 1 + 1 + 1) #[.complex .f64 0 0, .int .i64 0] := At.below (At.new' _ _ _ (by simp)) hb2
  have r1 := a3.cell; have f1 := a3.frozen; have z1 := a3.lt
  clear a3
  unfold balV
  go_wp2_with fail
  refine bodyPost_ret (v := .tuple #[.agg #[.complex .f64 za zb, .int .i64 zr], .int .i64 ze]) (by simp [results, Try.results84, go_sem, r1]) rfl ⟨rfl, ?_⟩
  repeat (first | exact hbw2 | refine Below.drew ?_ | refine below_drewN ?_ _ | refine Below.setCell ?_ (by simp; omega) _ | refine Below.alloc ?_ (by simp; omega) _)

theorem ckB_cases (x y r : Int) : ckB x y r = 0 ∨ ckB x y r = 2 := by
  unfold ckB; split <;> simp

theorem ofTwoBall_bad1 {a b c d : Nat} {x y : Int} (r s : Int) {K : FuncId} (h : Cp a b x y) (hx : InF x) (hy : InF y) (hc : ckB x y r = 2) (w : World) :
    Calls Try.prog 84 #[.agg #[.complex .f64 a b, .int .i64 r], .agg #[.complex .f64 c d, .int .i64 s], .func (.func K) #[] #[]] w (Mem (balV 0 0 0 2) w) :=
  ofTwoBall_of (Lib.hid fun W _ _ _ _ => ofOneBall_bad r h hx hy hc _ W)

theorem ofTwoBall_bad2 {a b c d : Nat} {x y u v : Int} (r s : Int) {K : FuncId} (h : Cp a b x y) (hx : InF x) (hy : InF y) (hc : ckB x y r = 0) (g : Cp c d u v) (hu : InF u) (hv : InF v) (gc : ckB u v s = 2) (w : World) :
    Calls Try.prog 84 #[.agg #[.complex .f64 a b, .int .i64 r], .agg #[.complex .f64 c d, .int .i64 s], .func (.func K) #[] #[]] w (Mem (balV 0 0 0 2) w) :=
  ofTwoBall_of (Lib.hid fun W p q hp hq => ofOneBall_ok r h hx hy hc (Lib.hid (ent_of Try.func140 (by kernel_rfl) rfl))
    (Lib.hid fun _ hb => ofTwoBall_mid_of (Lib.hid fun W x _ _ => ofOneBall_bad s g hu hv gc _ W) (hp.below hb) (hq.below hb)))

theorem ofTwoBall_ok {a b c d : Nat} {x y u v : Int} (r s : Int) {K : FuncId} (HE : Hid (Ent K)) (h : Cp a b x y) (hx : InF x) (hy : InF y) (hc : ckB x y r = 0) (g : Cp c d u v) (hu : InF u) (hv : InF v) (gc : ckB u v s = 0)
    {za zb : Nat} {zr ze : Int} (HK : Hid (∀ W, Calls Try.prog K #[.agg #[.complex .f64 a b, .int .i64 r], .agg #[.complex .f64 c d, .int .i64 s]] W (Mem (balV za zb zr ze) W))) (w : World) :
    Calls Try.prog 84 #[.agg #[.complex .f64 a b, .int .i64 r], .agg #[.complex .f64 c d, .int .i64 s], .func (.func K) #[] #[]] w (Mem (balV za zb zr ze) w) :=
  ofTwoBall_of (Lib.hid fun W p q hp hq => ofOneBall_ok r h hx hy hc (Lib.hid (ent_of Try.func140 (by kernel_rfl) rfl))
    (Lib.hid fun _ hb => ofTwoBall_mid_of (Lib.hid fun W z hp2 hz => ofOneBall_ok s g hu hv gc (Lib.hid (ent_of Try.func141 (by kernel_rfl) rfl))
      (Lib.hid fun _ hb2 => ofTwoBall_in HE HK (hp2.below hb2) (hz.below hb2))) (hp.below hb) (hq.below hb)))

end Go.Proofs.Ythkooiopiaakbaa
