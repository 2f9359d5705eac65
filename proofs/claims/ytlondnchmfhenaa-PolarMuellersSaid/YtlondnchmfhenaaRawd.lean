/- Floats of any bits: whether they are whole. -/
import Derived.Test.YtlondnchmfhenaaRawc
namespace Go.Proofs.Ytlondnchmfhenaa.Ev
set_option linter.unusedSimpArgs false
open Go Go.RowKit Go.Lib
set_option maxRecDepth 100000
def ra_t : Tr :=
  (.leaf (.float .f64 (.bin (.andNotK .u64) (.bin .maxI (.var 0) (.lit 0)) (.lit 9223372036854775808))))
theorem ra {x : Nat} {Q : Value → Prop} (H :
  Q (.float .f64 (NOp.den (.andNotK .u64) (if (0 : Int) > (x : Int) then 0 else (x : Int)) 9223372036854775808 : Int).toNat)) :
    ∃ v, Q v ∧ ∀ w, Calls Try.prog 160 #[.float .f64 x] w fun e w' => e = .returned v ∧ Below w.heap.size w w' :=
  tree_at mixed names S0_ok (S := S0 Try.prog) (lf := 100000) (d := 60) (args := [(.float .f64 (.var 0))]) ra_t { ivs := [], whs := [] } [(x : Int)] [] 1 0 rfl rfl (by kernel_rfl) (by kernel_rfl) (by kernel_rfl)
    ⟨fz, fz⟩ H
def rii_t : Tr :=
  (.call 160 [(.float .f64 (.var 0))] (.float .f64 (.var 1)) 1 0
  (.leaf (.bool (.fcmp .f64 .gtr (.var 1) (.lit 9218868437227405311)))))
theorem rii {x : Nat} {Q : Value → Prop} (H :
  (∃ v1 : Int, (∀ w, Calls Try.prog 160 #[.float .f64 x] w fun e w' => e = .returned (.float .f64 (v1 : Int).toNat) ∧ Below w.heap.size w w') ∧
   Q (.bool (COp.flo .f64 .gtr (v1 : Int).toNat 9218868437227405311)))) :
    ∃ v, Q v ∧ ∀ w, Calls Try.prog 163 #[.float .f64 x, .int .i64 (0)] w fun e w' => e = .returned v ∧ Below w.heap.size w w' :=
  tree_at mixed names S0_ok (S := S0 Try.prog) (lf := 100000) (d := 60) (args := [(.float .f64 (.var 0)), (.int .i64 (.lit 0))]) rii_t { ivs := [], whs := [] } [(x : Int)] [] 1 0 rfl rfl (by kernel_rfl) (by kernel_rfl) (by kernel_rfl)
    ⟨fz, fz⟩ H
def rwt_t : Tr :=
  (.call 163 [(.float .f64 (.var 0)), (.int .i64 (.lit 0))] (.bool (.var 0)) 0 1
  (.ite (.var 0)
  (.leaf (.bool (.lit false)))
  (.call 164 [(.float .f64 (.var 0))] (.float .f64 (.var 1)) 1 0
   (.leaf (.bool (.fcmp .f64 .eql (.var 1) (.var 0)))))))
theorem rwt {x : Nat} {Q : Value → Prop} (H :
  (∃ u0 : Bool, (∀ w, Calls Try.prog 163 #[.float .f64 x, .int .i64 (0)] w fun e w' => e = .returned (.bool (u0)) ∧ Below w.heap.size w w') ∧
   ((u0 = true → Q (.bool (false))) ∧
   (u0 = false → (∃ v1 : Int, (∀ w, Calls Try.prog 164 #[.float .f64 x] w fun e w' => e = .returned (.float .f64 (v1 : Int).toNat) ∧ Below w.heap.size w w') ∧
    Q (.bool (COp.flo .f64 .eql (v1 : Int).toNat x))))))) :
    ∃ v, Q v ∧ ∀ w, Calls Try.prog 159 #[.float .f64 x] w fun e w' => e = .returned v ∧ Below w.heap.size w w' :=
  tree_at mixed names S0_ok (S := S0 Try.prog) (lf := 100000) (d := 60) (args := [(.float .f64 (.var 0))]) rwt_t { ivs := [], whs := [] } [(x : Int)] [] 1 0 rfl rfl (by kernel_rfl) (by kernel_rfl) (by kernel_rfl)
    ⟨fz, fz⟩ H
theorem abs_raw {b : Nat} (hb : b < 18446744073709551616) (w : World) : Calls Try.prog 160 #[.float .f64 b] w fun e w' => e = .returned (.float .f64 (b % 9223372036854775808)) ∧ Below w.heap.size w w' := by
  refine one_val (ra (Q := (· = _)) ?_) w
  congr 1
  rw [if_neg (by omega), andNot_sign b hb]
  rfl
theorem inf_raw {b : Nat} (hb : b < 18446744073709551616) (w : World) : Calls Try.prog 163 #[.float .f64 b, .int .i64 0] w fun e w' => e = .returned (.bool (FloatKind.f64.format.order (b % 9223372036854775808) 9218868437227405311 == some .gt)) ∧ Below w.heap.size w w' := by
  exact one_val (rii (Q := (· = _)) ⟨((b % 9223372036854775808 : Nat) : Int), fun w => abs_raw hb w, rfl⟩) w
set_option maxRecDepth 100000 in
set_option maxHeartbeats 400000 in
theorem trunc_raw {b : Nat} (h : ∀ s t, Ieee.double.read b ≠ .nan s t) (w : World) : Calls Try.prog 164 #[.float .f64 b] w fun e w' => e = .returned (.float .f64 (trB b)) ∧ Below w.heap.size w w' := by
  have h1 := fun w => run_trunc_num h w
  clear h
  generalize trB b = t at *
  go_enter Try.func164, Try.ntmps164
  go_wp2_with fail
  go_ret
  exact ⟨rfl, Below.refl _ _⟩
set_option maxRecDepth 100000 in
set_option maxHeartbeats 400000 in
theorem trunc_nan {b : Nat} (h : Nan b) (w : World) : Calls Try.prog 164 #[.float .f64 b] w fun e w' => ∃ t, e = .returned (.float .f64 t) ∧ Nan t ∧ Below w.heap.size w w' := by
  obtain ⟨f, hf⟩ := Classical.skolem.1 (fun w => run_trunc_nan h w)
  have h1 := fun w => (hf w).1
  have h2 := hf w
  clear hf h
  go_enter Try.func164, Try.ntmps164
  go_wp2_with fail
  go_ret
  exact ⟨_, rfl, h2.2.1, h2.2.2⟩
set_option maxRecDepth 100000 in
set_option maxHeartbeats 400000 in
theorem whole_nan {b : Nat} (hb : b < 18446744073709551616) (h : Nan b) (w : World) : Calls Try.prog 159 #[.float .f64 b] w fun e w' => e = .returned (.bool false) ∧ Below w.heap.size w w' := by
  obtain ⟨s, t, hr⟩ := h
  obtain ⟨t', hr'⟩ := nan_abs hb hr
  have o1 : (FloatKind.f64.format.order (b % 9223372036854775808) 9218868437227405311 == some .gt) = false := by rw [show FloatKind.f64.format.order (b % 9223372036854775808) 9218868437227405311 = none from nan_order hr']; rfl
  have hI := Lib.hid (fun w => inf_raw hb w)
  rw [o1] at hI
  have hT := Lib.hid (fun w => trunc_nan ⟨s, t, hr⟩ w)
  clear o1 hr hr' hb
  go_enter Try.func159, Try.ntmps159
  go_wp2_with fail
  refine (hI.out _).mono ?_
  rintro e w1 ⟨rfl, b1⟩
  go_wp2_with fail
  refine (hT.out _).mono ?_
  rintro e w2 ⟨t, rfl, hn, b2⟩
  have o2 : FloatKind.f64.format.order t b = none := hn.neq
  go_wp2_with fail
  go_ret
  exact ⟨by simp [o2], b1.trans (b2.mono b1.size)⟩
/-- Whether a float is whole, of any bits. -/
theorem whole_raw {b : Nat} (hb : b < 18446744073709551616) (w : World) : Calls Try.prog 159 #[.float .f64 b] w fun e w' => e = .returned (.bool (whB b)) ∧ Below w.heap.size w w' := by
  rcases read_cases hb with ⟨s, t, hr⟩ | ⟨s, hr, hi⟩ | ⟨s, m, e, hr⟩
  · have : whB b = false := by unfold whB; rw [hr]
    rw [this]; exact whole_nan hb ⟨s, t, hr⟩ w
  · have : whB b = false := by unfold whB; rw [hr]
    rw [this]
    refine one_val (rwt (Q := (· = _)) ⟨true, fun w => ?_, fun _ => rfl, fun h => by cases h⟩) w
    have := inf_raw hb w
    rw [show (FloatKind.f64.format.order (b % 9223372036854775808) 9218868437227405311 == some .gt) = true from inf_gt hi] at this
    exact this
  · refine one_val (rwt (Q := (· = _)) (Exists.intro false (And.intro ?_ (And.intro ?_ ?_)))) w
    · intro w
      have := inf_raw hb w
      rw [show (FloatKind.f64.format.order (b % 9223372036854775808) 9218868437227405311 == some .gt) = false from hr.fin] at this
      exact this
    · intro h; cases h
    · intro _
      refine ⟨((trB b : Nat) : Int), fun w => trunc_raw (fun s t h => by rw [hr.read] at h; cases h) w, ?_⟩
      show Value.bool (FloatKind.f64.format.order (trB b) b == some .eq) = _
      rw [show (FloatKind.f64.format.order (trB b) b == some .eq) = whB b from hr.trunc]
end Go.Proofs.Ytlondnchmfhenaa.Ev
