/- Floats of any bits: NaNs, whole parts. -/
import Derived.Test.YtafnplkablkepaaFvw1
import Derived.Test.YtafnplkablkepaaRaw2
import Derived.WalkKit
import Derived.WalkLawsBesides
import Derived.Deep.QuietTactic
import Derived.BigQuiet
import Derived.Lib.Hide
import Derived.Laws.Externs
import Derived.Test.YtafnplkablkepaaFqs

namespace Go.Proofs.Ytafnplkablkepaa.Ev
set_option linter.unusedSimpArgs false
open Go Go.RowKit Go.Lib
set_option maxRecDepth 100000
theorem nan_read {s : Bool} {f : Nat} (h0 : 0 < f) (h1 : f < 4503599627370496) : ∃ t u, Ieee.double.read (Ieee.double.word s (9218868437227405312 + f)) = .nan t u := by
  unfold Ieee.Format.read Ieee.Format.word
  simp only [d_sign, d_binade, d_inf, d_least]
  cases s
  · simp only [Bool.false_eq_true, if_false]
    have e : (9218868437227405312 + f) % 9223372036854775808 = 9218868437227405312 + f := by omega
    rw [e, if_neg (by omega), if_neg (by omega), if_neg (by omega)]
    exact ⟨_, _, rfl⟩
  · simp only [if_true]
    have e : (9223372036854775808 + (9218868437227405312 + f)) % 9223372036854775808 = 9218868437227405312 + f := by omega
    rw [e, if_neg (by omega), if_neg (by omega), if_neg (by omega)]
    exact ⟨_, _, rfl⟩
def Nan (b : Nat) : Prop := ∃ t u, Ieee.double.read b = .nan t u
theorem nan_drawn (x y t : Nat) : Nan (Question.cut (.nanBits .f64 x y) t) := by
  have h := nan_read (s := (t % 2 == 1)) (f := 1 + (t / 2) % 4503599627370495) (by omega) (by omega)
  have e : Question.cut (.nanBits .f64 x y) t = Ieee.double.word (t % 2 == 1) (9218868437227405312 + (1 + (t / 2) % 4503599627370495)) := by
    show (t % 2) * 2 ^ 63 + 0x7ff0000000000000 + 1 + (t / 2) % (2 ^ 52 - 1) = _
    unfold Ieee.Format.word
    rw [d_sign]
    have e1 : (2 : Nat) ^ 63 = 9223372036854775808 := by decide
    have e2 : (2 : Nat) ^ 52 - 1 = 4503599627370495 := by decide
    rw [e1, e2]
    by_cases h : t % 2 = 1
    · rw [h]; simp; omega
    · have h' : t % 2 = 0 := by omega
      rw [h']; simp; omega
  rw [e]; exact h
theorem Nan.neq {a b : Nat} (h : Nan a) : FloatKind.f64.format.order a b = none := by obtain ⟨t, u, h⟩ := h; exact nan_order h
theorem Nan.neq' {a b : Nat} (h : Nan b) : FloatKind.f64.format.order a b = none := by obtain ⟨t, u, h⟩ := h; exact nan_order' h
theorem run_bin_nan (t : TypeId) (x y : Nat) (h : floatBits .sub .f64 x y = none) (w : World) : ∃ p : Nat × World, (binOp .sub t (.float .f64 x) (.float .f64 y)).run Try.prog w = .ok (.float .f64 p.1) p.2 ∧ Nan p.1 ∧ p.2 = w.drew := by
  have h' : FloatKind.f64.format.sub x y = none := h
  refine ⟨(_, w.drew), ?_, nan_drawn x y (w.tape w.drawn (.nanBits .f64 x y)), rfl⟩
  simp [binOp, Op.floatArith, h', Question.forced]
  rfl
theorem run_trunc_num {b : Nat} (h : ∀ s t, Ieee.double.read b ≠ .nan s t) (w : World) : (callFunc 94 #[.float .f64 b]).run Try.prog w = .ok (.value (.float .f64 (trB b))) w := by
  rw [run_callFunc_extern Try.func94 (by kernel_rfl) (by kernel_rfl) (by kernel_rfl) (e := Extern.MathFloor.toIntegral "math.archTrunc" .zero) (by kernel_rfl)]
  have e : Extern.MathFloor.toIntegral "math.archTrunc" .zero #[.float .f64 b] = pure (.float .f64 (trB b)) := by
    unfold Extern.MathFloor.toIntegral trB
    show (match Ieee.double.read b with | .nan s t => _ | d => pure (Value.float .f64 (Ieee.double.write (d.integral .zero)))) = _
    cases hr : Ieee.double.read b with
    | nan s t => exact absurd hr (h s t)
    | number s m e => rfl
    | infinity s => rfl
  rw [e]; rfl
theorem quiet_pos (t : Nat) (h : t < 4503599627370496) : 0 < Ieee.double.quiet t ∧ Ieee.double.quiet t < 4503599627370496 := by
  have e : Ieee.double.quiet t = t ||| 2251799813685248 := rfl
  rw [e]
  constructor
  · have := Nat.right_le_or (n := t) (m := 2251799813685248)
    omega
  · exact Nat.or_lt_two_pow (n := 52) h (by decide)
theorem run_trunc_nan {b : Nat} (h : Nan b) (w : World) : ∃ p : Nat × World, (callFunc 94 #[.float .f64 b]).run Try.prog w = .ok (.value (.float .f64 p.1)) p.2 ∧ Nan p.1 ∧ Below w.heap.size w p.2 := by
  obtain ⟨s, t, hr⟩ := h
  rw [run_callFunc_extern Try.func94 (by kernel_rfl) (by kernel_rfl) (by kernel_rfl) (e := Extern.MathFloor.toIntegral "math.archTrunc" .zero) (by kernel_rfl)]
  have e : Extern.MathFloor.toIntegral "math.archTrunc" .zero #[.float .f64 b] = (if FloatKind.f64.format.quiet t = t then pure (.float .f64 b) else do
      let kept ← choose (.extern "math.Floor,Ceil,Trunc,RoundToEven.signallingNaN kept" 2)
      pure (.float .f64 (if kept == 1 then b else FloatKind.f64.encode (.nan s (FloatKind.f64.format.quiet t))))) := by
    unfold Extern.MathFloor.toIntegral
    show (match Ieee.double.read b with | .nan s t => _ | d => pure (Value.float .f64 (Ieee.double.write (d.integral .zero)))) = _
    rw [hr]
  rw [e]
  by_cases hq : FloatKind.f64.format.quiet t = t
  · rw [if_pos hq]
    exact ⟨(b, w), rfl, ⟨s, t, hr⟩, Below.refl _ _⟩
  · rw [if_neg hq]
    have hn : ∀ n : Nat, Nan (if n == 1 then b else FloatKind.f64.encode (.nan s (FloatKind.f64.format.quiet t))) := by
      intro n
      by_cases h1 : n = 1
      · simp only [h1, BEq.rfl, if_true]; exact ⟨s, t, hr⟩
      · have : (n == 1) = false := by simpa using h1
        simp only [this, Bool.false_eq_true, if_false]
        show Nan (Ieee.double.word s (Ieee.double.infRung + Ieee.double.quiet t % Ieee.double.binade))
        rw [d_inf, d_binade]
        have ht : t < 4503599627370496 := by
          unfold Ieee.Format.read at hr
          simp only [d_sign, d_binade, d_inf, d_least] at hr
          split at hr
          · cases hr
          split at hr
          · cases hr
          split at hr
          · cases hr
          · cases hr; omega
        have hq := quiet_pos t ht
        rw [Nat.mod_eq_of_lt hq.2]
        exact nan_read hq.1 hq.2
    refine ⟨((if (Question.cut (.extern "math.Floor,Ceil,Trunc,RoundToEven.signallingNaN kept" 2) (w.tape w.drawn (.extern "math.Floor,Ceil,Trunc,RoundToEven.signallingNaN kept" 2)) == 1) = true then b else FloatKind.f64.encode (.nan s (FloatKind.f64.format.quiet t))), w.drew), ?_, hn (Question.cut (.extern "math.Floor,Ceil,Trunc,RoundToEven.signallingNaN kept" 2) (w.tape w.drawn (.extern "math.Floor,Ceil,Trunc,RoundToEven.signallingNaN kept" 2))), (Below.refl _ _).drew⟩
    simp [Question.forced]
end Go.Proofs.Ytafnplkablkepaa.Ev

/-! Floats of any bits: whether they are whole, and the parts of complex numbers. -/
namespace Go.Proofs.Ytafnplkablkepaa.Ev
set_option linter.unusedSimpArgs false
open Go Go.RowKit
set_option linter.unusedVariables false
set_option maxRecDepth 100000
def math_IsInf_s : Sig := ⟨81, ⟨2, 0, 0⟩, ⟨0, 1, 0⟩, [(.float .f64 (.var 0)), (.int .i64 (.var 1))], [], (.bool (.var 0)), []⟩
def math_Trunc_s : Sig := ⟨82, ⟨1, 0, 0⟩, ⟨1, 0, 0⟩, [(.float .f64 (.var 0))], [], (.float .f64 (.var 1)), []⟩
def whole_CheckParts_s : Sig := ⟨47, ⟨3, 0, 0⟩, ⟨1, 0, 0⟩, [(.complex .f64 (.var 0) (.var 1)), (.float .f64 (.var 2))], [], (.int .i64 (.var 3)), []⟩

def raw_a_t : Tr :=
  (.ret ⟨[(.bin (.andNotK .u64) (.bin .maxI (.var 0) (.lit 0)) (.lit 9223372036854775808))], [], []⟩ [])
theorem raw_a {x0 : Int} {R : Int → Prop}
  (H : R ((NOp.den (.andNotK .u64) (if (0 : Int) > x0 then 0 else x0) 9223372036854775808))) :
    ∃ v0 : Int, R v0 ∧ Spec Try.prog math_Abs_s ⟨[x0], [], []⟩ [v0] [] [] :=
  Eq.mp (by kernel_rfl) (exV_of (K := fun d => app3 math_Abs_s.out R d ∧ Spec Try.prog math_Abs_s ⟨[x0], [], []⟩ d.1 d.2.1 d.2.2) (tree_at mixed names S0_ok (S := S0 Try.prog) (lf := 100000) (d := 60) math_Abs_s raw_a_t { ivs := [], aivs := [] } ⟨[x0], [], []⟩ rfl (by kernel_rfl) (by kernel_rfl) (by kernel_rfl) ⟨fz, fz, fz, fz⟩ (R := fun d => app3 math_Abs_s.out R d) (Eq.mp (by kernel_rfl) H)))

def raw_i_t : Tr :=
  (.call math_Abs_s ⟨[(.var 0)], [], []⟩ ⟨[(.var 0), (.var 2)], [], []⟩ ⟨67, [(.float .f64 (.var 0))], [], [], (.float .f64 (.var 2)), []⟩
  (.ret ⟨[], [(.fcmp .f64 .gtr (.var 2) (.lit 9218868437227405311))], []⟩ []))
theorem raw_i {x0 x1 : Int} (r1 : 0 ≤ x1 ∧ x1 ≤ 0) {R : Bool → Prop}
  (H : (∃ v2 : Int, Spec Try.prog math_Abs_s ⟨[x0], [], []⟩ [v2] [] [] ∧
   R (COp.flo .f64 .gtr (v2 : Int).toNat (9218868437227405311 : Int).toNat))) :
    ∃ u0 : Bool, R u0 ∧ Spec Try.prog math_IsInf_s ⟨[x0, x1], [], []⟩ [] [u0] [] :=
  Eq.mp (by kernel_rfl) (exV_of (K := fun d => app3 math_IsInf_s.out R d ∧ Spec Try.prog math_IsInf_s ⟨[x0, x1], [], []⟩ d.1 d.2.1 d.2.2) (tree_at mixed names S0_ok (S := S0 Try.prog) (lf := 100000) (d := 60) math_IsInf_s raw_i_t { ivs := [(1, 0, 0)], aivs := [] } ⟨[x0, x1], [], []⟩ rfl (by kernel_rfl) (by kernel_rfl) (by kernel_rfl) ⟨(fc r1 fz), fz, fz, fz⟩ (R := fun d => app3 math_IsInf_s.out R d) (Eq.mp (by kernel_rfl) H)))

def raw_w_t : Tr :=
  (.call math_IsInf_s ⟨[(.var 0), (.lit 0)], [], []⟩ ⟨[(.var 0), (.lit 0)], [(.var 0)], []⟩ ⟨81, [(.float .f64 (.var 0)), (.int .i64 (.lit 0))], [], [], (.bool (.var 0)), []⟩
  (.ite (.var 0)
  (.ret ⟨[], [(.lit false)], []⟩ [])
  (.call math_Trunc_s ⟨[(.var 0)], [], []⟩ ⟨[(.var 0), (.var 1)], [], []⟩ ⟨82, [(.float .f64 (.var 0))], [], [], (.float .f64 (.var 1)), []⟩
   (.ret ⟨[], [(.fcmp .f64 .eql (.var 1) (.var 0))], []⟩ []))))
theorem raw_w {x0 : Int} {R : Bool → Prop}
  (H : (∃ u0 : Bool, Spec Try.prog math_IsInf_s ⟨[x0, 0], [], []⟩ [] [u0] [] ∧
   ((u0 = true → R (false)) ∧
   (u0 = false → (∃ v1 : Int, Spec Try.prog math_Trunc_s ⟨[x0], [], []⟩ [v1] [] [] ∧
    R (COp.flo .f64 .eql (v1 : Int).toNat (x0 : Int).toNat)))))) :
    ∃ u0 : Bool, R u0 ∧ Spec Try.prog whole_IsWhole_s ⟨[x0], [], []⟩ [] [u0] [] :=
  Eq.mp (by kernel_rfl) (exV_of (K := fun d => app3 whole_IsWhole_s.out R d ∧ Spec Try.prog whole_IsWhole_s ⟨[x0], [], []⟩ d.1 d.2.1 d.2.2) (tree_at mixed names S0_ok (S := S0 Try.prog) (lf := 100000) (d := 60) whole_IsWhole_s raw_w_t { ivs := [], aivs := [] } ⟨[x0], [], []⟩ rfl (by kernel_rfl) (by kernel_rfl) (by kernel_rfl) ⟨fz, fz, fz, fz⟩ (R := fun d => app3 whole_IsWhole_s.out R d) (Eq.mp (by kernel_rfl) H)))

def raw_c_t : Tr :=
  (.call whole_IsWhole_s ⟨[(.var 0)], [], []⟩ ⟨[(.var 0)], [(.var 0)], []⟩ ⟨65, [(.float .f64 (.var 0))], [], [], (.bool (.var 0)), []⟩
  (.ite (.var 0)
  (.call whole_IsWhole_s ⟨[(.var 1)], [], []⟩ ⟨[(.var 1)], [(.var 1)], []⟩ ⟨65, [(.float .f64 (.var 1))], [], [], (.bool (.var 1)), []⟩
   (.ite (.var 1)
   (.call math_Abs_s ⟨[(.var 0)], [], []⟩ ⟨[(.var 0), (.var 3)], [], []⟩ ⟨67, [(.float .f64 (.var 0))], [], [], (.float .f64 (.var 3)), []⟩
    (.ite (.fcmp .f64 .gtr (.var 3) (.var 2))
    (.ret ⟨[(.lit 2)], [], []⟩ [])
    (.call math_Abs_s ⟨[(.var 1)], [], []⟩ ⟨[(.var 1), (.var 4)], [], []⟩ ⟨67, [(.float .f64 (.var 1))], [], [], (.float .f64 (.var 4)), []⟩
     (.ite (.fcmp .f64 .gtr (.var 4) (.var 2))
     (.ret ⟨[(.lit 2)], [], []⟩ [])
     (.ret ⟨[(.lit 0)], [], []⟩ [])))))
   (.ret ⟨[(.lit 27)], [], []⟩ [])))
  (.ret ⟨[(.lit 27)], [], []⟩ [])))
theorem raw_c {x0 x1 x2 : Int} {R : Int → Prop}
  (H : (∃ u0 : Bool, Spec Try.prog whole_IsWhole_s ⟨[x0], [], []⟩ [] [u0] [] ∧
   ((u0 = true → (∃ u1 : Bool, Spec Try.prog whole_IsWhole_s ⟨[x1], [], []⟩ [] [u1] [] ∧
    ((u1 = true → (∃ v3 : Int, Spec Try.prog math_Abs_s ⟨[x0], [], []⟩ [v3] [] [] ∧
     ((COp.flo .f64 .gtr (v3 : Int).toNat (x2 : Int).toNat = true → R (2)) ∧
     (COp.flo .f64 .gtr (v3 : Int).toNat (x2 : Int).toNat = false → (∃ v4 : Int, Spec Try.prog math_Abs_s ⟨[x1], [], []⟩ [v4] [] [] ∧
      ((COp.flo .f64 .gtr (v4 : Int).toNat (x2 : Int).toNat = true → R (2)) ∧
      (COp.flo .f64 .gtr (v4 : Int).toNat (x2 : Int).toNat = false → R (0)))))))) ∧
    (u1 = false → R (27))))) ∧
   (u0 = false → R (27))))) :
    ∃ v0 : Int, R v0 ∧ Spec Try.prog whole_CheckParts_s ⟨[x0, x1, x2], [], []⟩ [v0] [] [] :=
  Eq.mp (by kernel_rfl) (exV_of (K := fun d => app3 whole_CheckParts_s.out R d ∧ Spec Try.prog whole_CheckParts_s ⟨[x0, x1, x2], [], []⟩ d.1 d.2.1 d.2.2) (tree_at mixed names S0_ok (S := S0 Try.prog) (lf := 100000) (d := 60) whole_CheckParts_s raw_c_t { ivs := [], aivs := [] } ⟨[x0, x1, x2], [], []⟩ rfl (by kernel_rfl) (by kernel_rfl) (by kernel_rfl) ⟨fz, fz, fz, fz⟩ (R := fun d => app3 whole_CheckParts_s.out R d) (Eq.mp (by kernel_rfl) H)))

open Go.Lib

abbrev U (b : Nat) : Prop := b < 18446744073709551616

theorem abs_rs {b : Nat} (hb : U b) : Spec Try.prog math_Abs_s ⟨[(b : Int)], [], []⟩ [((b % 9223372036854775808 : Nat) : Int)] [] [] := by

  obtain ⟨v, rfl, hs⟩ := raw_a (x0 := (b : Int)) (R := (· = ((b % 9223372036854775808 : Nat) : Int))) (by rw [if_neg (by omega), andNot_sign b hb])

  exact hs

def infB (b : Nat) : Bool := FloatKind.f64.format.order (b % 9223372036854775808) 9218868437227405311 == some .gt

theorem inf_rs {b : Nat} (hb : U b) : Spec Try.prog math_IsInf_s ⟨[(b : Int), 0], [], []⟩ [] [infB b] [] := by

  obtain ⟨u, rfl, hs⟩ := raw_i (x0 := (b : Int)) (x1 := 0) (by omega) (R := (· = infB b)) ⟨_, abs_rs hb, rfl⟩

  exact hs

theorem inf_raw {b : Nat} (hb : U b) (w : World) : Calls Try.prog 81 #[.float .f64 b, .int .i64 0] w fun e w' => e = .returned (.bool (infB b)) ∧ Below w.heap.size w w' :=

  spec_calls (inf_rs hb) rfl rfl rfl w

set_option maxHeartbeats 400000 in

theorem trunc_raw {b : Nat} (h : ∀ s t, Ieee.double.read b ≠ .nan s t) (w : World) : Calls Try.prog 82 #[.float .f64 b] w fun e w' => e = .returned (.float .f64 (trB b)) ∧ Below w.heap.size w w' := by

  have h1 := fun w => run_trunc_num h w

  clear h

  generalize trB b = t at *

  go_enter Try.func82, Try.ntmps82

  go_wp2_with fail

  go_ret

  exact ⟨rfl, Below.refl _ _⟩

set_option maxHeartbeats 400000 in

theorem trunc_nan {b : Nat} (h : Nan b) (w : World) : Calls Try.prog 82 #[.float .f64 b] w fun e w' => ∃ t, e = .returned (.float .f64 t) ∧ Nan t ∧ Below w.heap.size w w' := by

  obtain ⟨f, hf⟩ := Classical.skolem.1 (fun w => run_trunc_nan h w)

  have h1 := fun w => (hf w).1

  have h2 := hf w

  clear hf h

  go_enter Try.func82, Try.ntmps82

  go_wp2_with fail

  go_ret

  exact ⟨_, rfl, h2.2.1, h2.2.2⟩

set_option maxHeartbeats 400000 in

theorem whole_nan {b : Nat} (hb : U b) (h : Nan b) (w : World) : Calls Try.prog 65 #[.float .f64 b] w fun e w' => e = .returned (.bool false) ∧ Below w.heap.size w w' := by

  obtain ⟨s, t, hr⟩ := h

  obtain ⟨t', hr'⟩ := nan_abs hb hr

  have o1 : infB b = false := by unfold infB; rw [show FloatKind.f64.format.order (b % 9223372036854775808) 9218868437227405311 = none from nan_order hr']; rfl

  have hI := hid (fun w => inf_raw hb w)

  rw [o1] at hI

  have hT := hid (fun w => trunc_nan ⟨s, t, hr⟩ w)

  clear o1 hr hr' hb

  go_enter Try.func65, Try.ntmps65

  go_wp2_with fail

  refine (hI.out _).mono ?_

  rintro e w1 ⟨rfl, b1⟩

  go_wp2_with fail

  refine (hT.out _).mono ?_

  rintro e w2 ⟨t, rfl, hn, b2⟩

  have o2 : FloatKind.f64.format.order t b = none := hn.neq

  go_wp2_with fail

  go_ret

  exact ⟨by simp [o2], b1.trans (b2.mono b1.size)⟩

/-- Whether a float is whole, of any bits. -/

theorem whole_rs {b : Nat} (hb : U b) : Spec Try.prog whole_IsWhole_s ⟨[(b : Int)], [], []⟩ [] [whB b] [] := by

  rcases read_cases hb with ⟨s, t, hr⟩ | ⟨s, hr, hi⟩ | ⟨s, m, e, hr⟩

  · have : whB b = false := by unfold whB; rw [hr]

    rw [this]

    exact Spec.of rfl rfl rfl rfl fun w => whole_nan hb ⟨s, t, hr⟩ w

  · have : whB b = false := by unfold whB; rw [hr]

    rw [this]

    have hI := inf_rs hb

    rw [show infB b = true from inf_gt hi] at hI

    obtain ⟨u, rfl, hs⟩ := raw_w (x0 := (b : Int)) (R := (· = false)) ⟨true, hI, fun _ => rfl, fun h => by cases h⟩

    exact hs

  · have hI := inf_rs hb

    rw [show infB b = false from hr.fin] at hI

    have hq : ∀ s t, Ieee.double.read b ≠ .nan s t := fun s t h => by rw [hr.read] at h; cases h

    have hT : Spec Try.prog math_Trunc_s ⟨[(b : Int)], [], []⟩ [((trB b : Nat) : Int)] [] [] := Spec.of rfl rfl rfl rfl fun w => trunc_raw hq w

    obtain ⟨u, rfl, hs⟩ := raw_w (x0 := (b : Int)) (R := (· = whB b)) ⟨false, hI, (fun h => by cases h), fun _ => ⟨_, hT, by

      show (FloatKind.f64.format.order (trB b) b == some .eq) = whB b

      exact hr.trunc⟩⟩

    exact hs

def ckC (a b : Nat) (M : Int) : Int := if whB a && whB b then (if bigB a M || bigB b M then 2 else 0) else 27

theorem num_of {b : Nat} (hb : U b) (h : whB b = true) : ∃ s m e, NumB b s m e := by

  rcases read_cases hb with ⟨s, t, hr⟩ | ⟨s, hr, _⟩ | g

  · unfold whB at h; rw [hr] at h; cases h

  · unfold whB at h; rw [hr] at h; cases h

  · exact g

theorem parts_rs {a b : Nat} {M : Int} (ha : U a) (hb : U b) : Spec Try.prog whole_CheckParts_s ⟨[(a : Int), (b : Int), ((FloatKind.f64.nearest M : Nat) : Int)], [], []⟩ [ckC a b M] [] [] := by

  suffices h : ∃ v : Int, v = ckC a b M ∧ Spec Try.prog whole_CheckParts_s ⟨[(a : Int), (b : Int), ((FloatKind.f64.nearest M : Nat) : Int)], [], []⟩ [v] [] [] by

    obtain ⟨v, rfl, hs⟩ := h

    exact hs

  refine raw_c (x0 := (a : Int)) (x1 := (b : Int)) (x2 := ((FloatKind.f64.nearest M : Nat) : Int)) (R := (· = ckC a b M)) ⟨_, whole_rs ha, fun g1 => ⟨_, whole_rs hb, fun g2 => ⟨_, abs_rs ha, fun g3 => ?_, fun g3 => ⟨_, abs_rs hb, fun g4 => ?_, fun g4 => ?_⟩⟩, fun g2 => ?_⟩, fun g1 => ?_⟩

  · have g3 : bigB a M = true := g3

    simp [ckC, g1, g2, g3]

  · have g3 : bigB a M = false := g3

    have g4 : bigB b M = true := g4

    simp [ckC, g1, g2, g3, g4]

  · have g3 : bigB a M = false := g3

    have g4 : bigB b M = false := g4

    simp [ckC, g1, g2, g3, g4]

  · simp [ckC, g1, g2]

  · simp [ckC, g1]

end Go.Proofs.Ytafnplkablkepaa.Ev

/-! Floats of any bits: the reference's test whether they are whole. -/
namespace Go.Proofs.Ytafnplkablkepaa.Ev
set_option linter.unusedSimpArgs false
open Go Go.RowKit Go.Lib
set_option maxRecDepth 100000
set_option maxHeartbeats 1000000 in
theorem base_nan {b : Nat} (h : Nan b) (w : World) : Calls Try.prog 38 #[.float .f64 b] w fun e w' => e = .returned (.bool false) ∧ Below w.heap.size w w' := by
  have o1 : (FloatKind.f64.format.order b b != some .eq) = true := by rw [h.neq]; rfl
  clear h
  go_enter Try.func38, Try.ntmps38
  go_wp2
  all_goals (go_ret; exact ⟨by simp [*], by repeat (first | exact Below.refl _ _ | refine Below.drew ?_)⟩)
set_option maxHeartbeats 1000000 in
theorem base_inf {b : Nat} {s : Bool} (h : Ieee.double.read b = .infinity s) (w : World) : Calls Try.prog 38 #[.float .f64 b] w fun e w' => e = .returned (.bool false) ∧ Below w.heap.size w w' := by
  have o1 : (FloatKind.f64.format.order b b != some .eq) = false := by
    have : FloatKind.f64.format.order b b = some .eq := by
      show (Ieee.double.read b).order (Ieee.double.read b) = _
      rw [h]; cases s <;> rfl
    rw [this]; rfl
  obtain ⟨f, hf⟩ := Classical.skolem.1 (fun w => run_bin_nan 88 b b (inf_sub h) w)
  have hs := fun w => (hf w).1
  have hd := fun w => (hf w).2.2
  have o2 : ∀ w, (FloatKind.f64.format.order (f w).1 0 != some .eq) = true := fun w => by rw [(hf w).2.1.neq]; rfl
  clear h hf
  go_enter Try.func38, Try.ntmps38
  go_wp2
  all_goals (go_ret; exact ⟨by simp [*], by (try simp only [hd]); repeat (first | exact Below.refl _ _ | refine Below.drew ?_)⟩)
set_option maxHeartbeats 1000000 in
theorem base_num {b : Nat} {s : Bool} {m : Nat} {e : Int} (h : NumB b s m e) (w : World) : Calls Try.prog 38 #[.float .f64 b] w fun e w' => e = .returned (.bool (whB b)) ∧ Below w.heap.size w w' := by
  have o1 : (FloatKind.f64.format.order b b != some .eq) = false := by rw [show FloatKind.f64.format.order b b = some .eq from order_refl h.read]; rfl
  have hs := fun w => run_float_arith (P := Try.prog) w .sub 88 .f64 b b 0 h.sub
  have o2 : (FloatKind.f64.format.order 0 0 != some .eq) = false := by decide +kernel
  have o3 : (FloatKind.f64.format.order (fi (inB b)) b == some .eq) = whB b := h.back
  unfold fi at o3
  by_cases hm : midB b = true
  · have c1 := fun w => run_convert_float_int (P := Try.prog) w 88 3 .f64 .i64 b (inB b) (by rw [Try.underlying88]; rfl) Try.underlying3 (h.toInt hm)
    unfold midB at hm
    simp only [Bool.and_eq_true] at hm
    obtain ⟨g1, g2⟩ := hm
    have g1 : (FloatKind.f64.format.order b 14069741636278059008 == some .gt || FloatKind.f64.format.order b 14069741636278059008 == some .eq) = true := g1
    have g2 : (FloatKind.f64.format.order b 4846369599423283200 == some .lt || FloatKind.f64.format.order b 4846369599423283200 == some .eq) = true := g2
    clear h
    generalize inB b = n at *
    generalize whB b = v at *
    go_enter Try.func38, Try.ntmps38
    go_wp2
    all_goals (go_ret; exact ⟨by simp [*], by repeat (first | exact Below.refl _ _ | refine Below.drew ?_)⟩)
  · have hm : midB b = false := by simpa using hm
    have hw := h.large_whole hm
    rw [hw]
    unfold midB at hm
    simp only [Bool.and_eq_false_iff] at hm
    clear h o3
    rcases hm with g1 | g1
    · have g1 : (FloatKind.f64.format.order b 14069741636278059008 == some .gt || FloatKind.f64.format.order b 14069741636278059008 == some .eq) = false := g1
      go_enter Try.func38, Try.ntmps38
      go_wp2
      all_goals (go_ret; exact ⟨by simp [*], by repeat (first | exact Below.refl _ _ | refine Below.drew ?_)⟩)
    · have g1 : (FloatKind.f64.format.order b 4846369599423283200 == some .lt || FloatKind.f64.format.order b 4846369599423283200 == some .eq) = false := g1
      cases g2 : (FloatKind.f64.format.order b 14069741636278059008 == some .gt || FloatKind.f64.format.order b 14069741636278059008 == some .eq)
      all_goals
        go_enter Try.func38, Try.ntmps38
        go_wp2
        all_goals (go_ret; exact ⟨by simp [*], by repeat (first | exact Below.refl _ _ | refine Below.drew ?_)⟩)
theorem base_raw {b : Nat} (hb : b < 18446744073709551616) (w : World) : Calls Try.prog 38 #[.float .f64 b] w fun e w' => e = .returned (.bool (whB b)) ∧ Below w.heap.size w w' := by
  rcases read_cases hb with ⟨s, t, hr⟩ | ⟨s, hr, hi⟩ | ⟨s, m, e, hr⟩
  · have : whB b = false := by unfold whB; rw [hr]
    rw [this]; exact base_nan ⟨s, t, hr⟩ w
  · have : whB b = false := by unfold whB; rw [hr]
    rw [this]; exact base_inf hr w
  · exact base_num hr w
end Go.Proofs.Ytafnplkablkepaa.Ev
