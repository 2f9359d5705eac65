/- The contracts of ofOne and ofTwo of package ball, of what answers yes or no. -/
import Derived.Test.YthkooiopiaakbaaOps
import Derived.Test.YthkooiopiaakbaaHold
namespace Go.Proofs.Ythkooiopiaakbaa
open Go.RowKit Go.Lib
attribute [local go_sem] run_store_float run_store_complex
set_option linter.unusedVariables false

/-- An answer, and an error. -/
def bovV (v : Bool) (e : Int) : Value := .tuple #[.bool v, .int .i64 e]

set_option maxHeartbeats 1000000 in
theorem ofOneBool_bad {a b : Nat} {x y : Int} (r : Int) (h : Cp a b x y) (hx : InF x) (hy : InF y) (hc : ckB x y r = 2) (F : Value) (w : World) :
    Calls Try.prog 117 #[.agg #[.complex .f64 a b, .int .i64 r], F] w (Mem (bovV false 2) w) := by
  have HC := fun w => CheckBall_any r h hx hy w
  rw [hc] at HC
  replace HC := Lib.hid HC
  clear h hx hy hc
  unfold bovV
  go_enter Try.func117, Try.ntmps117
  go_wp2_with fail
  have K := (Hold.start w).new #[.complex .f64 a b, .int .i64 r] 27 (n := w.heap.size) (by simp)
  refine (HC.out _).mono ?_
  rintro e_1 w1 ⟨rfl, hb⟩
  have K' := Hold.mem K hb
  clear hb K
  go_wp2_with fail
  exact bodyPost_ret (v := .tuple #[.bool false, .int .i64 2]) (by simp [results, Try.results117, go_sem, *]) rfl ⟨rfl, K'.below⟩

set_option maxHeartbeats 1000000 in
theorem ofOneBool_ok {a b : Nat} {x y : Int} (r : Int) (h : Cp a b x y) (hx : InF x) (hy : InF y) (hc : ckB x y r = 0) {K : FuncId} {caps : Array Value} (HE : Hid (Ent K)) {v : Bool} {e : Int} {w : World}
    (HK : Hid (∀ W, Below w.heap.size w W → Calls Try.prog K (#[.agg #[.complex .f64 a b, .int .i64 r]] ++ caps) W (Mem (bovV v e) W))) :
    Calls Try.prog 117 #[.agg #[.complex .f64 a b, .int .i64 r], .func (.func K) #[] caps] w (Mem (bovV v e) w) := by
  have HC := fun w => CheckBall_any r h hx hy w
  rw [hc] at HC
  replace HC := Lib.hid HC
  clear h hx hy hc
  have HE' : ∀ args w, (callFunc K args).run Try.prog w = .ok (.enter K args) w := HE.out
  unfold bovV at *
  go_enter Try.func117, Try.ntmps117
  go_wp2_with fail
  have L := (Hold.start w).new #[.complex .f64 a b, .int .i64 r] 27 (n := w.heap.size) (by simp)
  refine (HC.out _).mono ?_
  rintro e_1 w1 ⟨rfl, hb⟩
  have L' := Hold.mem L hb
  clear hb L
  obtain ⟨hbw, sz1, h0, _⟩ := id L'
  have q0 := h0.cell; have f0 := h0.frozen; have z1_0 := h0.lt
  clear h0
  go_wp2_with fail
  refine (HK.out _ L'.below).mono ?_
  rintro e_2 w2 ⟨rfl, hb⟩
  have M := Hold.mem L' hb
  clear hb L' q0 f0
  go_wp2_with fail
  exact bodyPost_ret (v := .tuple #[.bool v, .int .i64 e]) (by simp [results, Try.results117, go_sem, *]) rfl ⟨rfl, M.below⟩

set_option maxHeartbeats 1000000 in
theorem ofTwoBool_in {a b c d : Nat} {r s : Int} {K : FuncId} (HE : Hid (Ent K)) {v : Bool} {e : Int} {w : World} {p q : Nat}
    (HK : Hid (∀ W, Calls Try.prog K #[.agg #[.complex .f64 a b, .int .i64 r], .agg #[.complex .f64 c d, .int .i64 s]] W (Mem (bovV v e) W)))
    (hp : At w p #[.func (.func K) #[] #[]]) (hq : At w q #[.complex .f64 a b, .int .i64 r]) :
    Calls Try.prog 149 #[.agg #[.complex .f64 c d, .int .i64 s], .pointer (some ⟨p, 0, none⟩), .pointer (some ⟨q, 0, none⟩)] w (Mem (bovV v e) w) := by
  have HE' : ∀ args w, (callFunc K args).run Try.prog w = .ok (.enter K args) w := HE.out
  have p1 := hp.cell; have p2 := hp.lt
  have q1 := hq.cell; have q2 := hq.lt
  clear hp hq
  unfold bovV at *
  go_enter Try.func149, Try.ntmps149
  go_wp2_with fail
  have L := (Hold.start w).new #[.complex .f64 c d, .int .i64 s] 95 (n := w.heap.size) (by simp)
  refine (HK.out _).mono ?_
  rintro e_2 w2 ⟨rfl, hb⟩
  have M := Hold.mem L hb
  clear hb L p1 q1
  go_wp2_with fail
  exact bodyPost_ret (v := .tuple #[.bool v, .int .i64 e]) (by simp [results, Try.results149, go_sem, *]) rfl ⟨rfl, M.below⟩

theorem ofTwoBool_mid_of {a b c d : Nat} {r s : Int} {K : FuncId} {v : Bool} {e : Int} {w : World} {p q : Nat}
    (HK : Hid (∀ W x, At W p #[.func (.func K) #[] #[]] → At W x #[.complex .f64 a b, .int .i64 r] →
      Calls Try.prog 117 #[.agg #[.complex .f64 c d, .int .i64 s], .func (.func 149) #[] #[.pointer (some ⟨p, 0, none⟩), .pointer (some ⟨x, 0, none⟩)]] W (Mem (bovV v e) W)))
    (hp : At w p #[.func (.func K) #[] #[]]) (hq : At w q #[.complex .f64 c d, .int .i64 s]) :
    Calls Try.prog 148 #[.agg #[.complex .f64 a b, .int .i64 r], .pointer (some ⟨q, 0, none⟩), .pointer (some ⟨p, 0, none⟩)] w (Mem (bovV v e) w) := by
  have HP := Lib.hid hp
  have q1 := hq.cell; have q2 := hq.lt
  clear hp hq
  unfold bovV at *
  go_enter Try.func148, Try.ntmps148
  go_wp2_with fail
  have L := (Hold.start w).new #[.complex .f64 a b, .int .i64 r] 95 (n := w.heap.size) (by simp)
  refine (HK.out _ _ (HP.out.old _) (At.new _ _ _)).mono ?_
  rintro e_2 w2 ⟨rfl, hb⟩
  have M := Hold.mem L hb
  clear hb L q1
  go_wp2_with fail
  exact bodyPost_ret (v := .tuple #[.bool v, .int .i64 e]) (by simp [results, Try.results148, go_sem, *]) rfl ⟨rfl, M.below⟩

theorem ofTwoBool_of {a b c d : Nat} {r s : Int} {K : FuncId} {v : Bool} {e : Int} {w : World}
    (HK : Hid (∀ W p q, At W p #[.func (.func K) #[] #[]] → At W q #[.complex .f64 c d, .int .i64 s] →
      Calls Try.prog 117 #[.agg #[.complex .f64 a b, .int .i64 r], .func (.func 148) #[] #[.pointer (some ⟨q, 0, none⟩), .pointer (some ⟨p, 0, none⟩)]] W (Mem (bovV v e) W))) :
    Calls Try.prog 122 #[.agg #[.complex .f64 a b, .int .i64 r], .agg #[.complex .f64 c d, .int .i64 s], .func (.func K) #[] #[]] w (Mem (bovV v e) w) := by
  unfold bovV at *
  go_enter Try.func122, Try.ntmps122
  go_wp2_with fail
  refine (HK.out _ _ _ (At.new' _ _ _ (by simp)) ((At.new' _ _ _ (by simp)).old _)).mono ?_
  rintro e_2 w2 ⟨rfl, hb2⟩
  have hbw2 : Below w.heap.size w w2 := ((((Below.refl _ _).alloc (Nat.le_refl _) _).alloc (by simp) _).alloc (by simp; omega) _).trans (hb2.mono (by simp; omega))
  go_wp2_with fail
  exact bodyPost_ret (v := .tuple #[.bool v, .int .i64 e]) (by simp [results, Try.results122, go_sem, *]) rfl ⟨rfl, hbw2⟩

theorem ofTwoBool_bad1 {a b c d : Nat} {x y : Int} (r s : Int) {K : FuncId} (h : Cp a b x y) (hx : InF x) (hy : InF y) (hc : ckB x y r = 2) (w : World) :
    Calls Try.prog 122 #[.agg #[.complex .f64 a b, .int .i64 r], .agg #[.complex .f64 c d, .int .i64 s], .func (.func K) #[] #[]] w (Mem (bovV false 2) w) :=
  ofTwoBool_of (Lib.hid fun W _ _ _ _ => ofOneBool_bad r h hx hy hc _ W)

theorem ofTwoBool_bad2 {a b c d : Nat} {x y u v : Int} (r s : Int) {K : FuncId} (h : Cp a b x y) (hx : InF x) (hy : InF y) (hc : ckB x y r = 0) (g : Cp c d u v) (hu : InF u) (hv : InF v) (gc : ckB u v s = 2) (w : World) :
    Calls Try.prog 122 #[.agg #[.complex .f64 a b, .int .i64 r], .agg #[.complex .f64 c d, .int .i64 s], .func (.func K) #[] #[]] w (Mem (bovV false 2) w) :=
  ofTwoBool_of (Lib.hid fun W p q hp hq => ofOneBool_ok r h hx hy hc (Lib.hid (ent_of Try.func148 (by kernel_rfl) rfl))
    (Lib.hid fun _ hb => ofTwoBool_mid_of (Lib.hid fun W x _ _ => ofOneBool_bad s g hu hv gc _ W) (hp.below hb) (hq.below hb)))

theorem ofTwoBool_ok {a b c d : Nat} {x y u v : Int} (r s : Int) {K : FuncId} (HE : Hid (Ent K)) (h : Cp a b x y) (hx : InF x) (hy : InF y) (hc : ckB x y r = 0) (g : Cp c d u v) (hu : InF u) (hv : InF v) (gc : ckB u v s = 0)
    {t : Bool} {e : Int} (HK : Hid (∀ W, Calls Try.prog K #[.agg #[.complex .f64 a b, .int .i64 r], .agg #[.complex .f64 c d, .int .i64 s]] W (Mem (bovV t e) W))) (w : World) :
    Calls Try.prog 122 #[.agg #[.complex .f64 a b, .int .i64 r], .agg #[.complex .f64 c d, .int .i64 s], .func (.func K) #[] #[]] w (Mem (bovV t e) w) :=
  ofTwoBool_of (Lib.hid fun W p q hp hq => ofOneBool_ok r h hx hy hc (Lib.hid (ent_of Try.func148 (by kernel_rfl) rfl))
    (Lib.hid fun _ hb => ofTwoBool_mid_of (Lib.hid fun W z hp2 hz => ofOneBool_ok s g hu hv gc (Lib.hid (ent_of Try.func149 (by kernel_rfl) rfl))
      (Lib.hid fun _ hb2 => ofTwoBool_in HE HK (hp2.below hb2) (hz.below hb2))) (hp.below hb) (hq.below hb)))
end Go.Proofs.Ythkooiopiaakbaa
