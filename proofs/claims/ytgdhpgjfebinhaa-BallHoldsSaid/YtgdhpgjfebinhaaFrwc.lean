/- Floats of any bits: NaNs, whole parts. -/
import Derived.Test.YtgdhpgjfebinhaaFvw1
import Derived.Test.YtgdhpgjfebinhaaRaw2
import Derived.WalkKit
import Derived.WalkLawsBesides
import Derived.Deep.QuietTactic
import Derived.BigQuiet
import Derived.Lib.Hide
import Derived.Laws.Externs
namespace Go.Proofs.Ytgdhpgjfebinhaa.Ev
set_option linter.unusedSimpArgs false
open Go Go.RowKit Go.Lib
set_option maxRecDepth 100000
theorem nan_read {s : Bool} {f : Nat} (h0 : 0 < f) (h1 : f < 4503599627370496) : ∃ t u, Ieee.double.read (Ieee.double.word s (9218868437227405312 + f)) = .nan t u := by
  unfold Ieee.Format.read Ieee.Format.word
  simp only [d_sign, d_binade, d_inf, d_least]
  cases s
  · simp only [Bool.false_eq_true, if_false]
    have e : (9218868437227405312 + f) % 9223372036854775808 = 9218868437227405312 + f := by omega
    rw [e, if_neg (by omega), if_neg (by omega), if_neg (by omega)]
    exact ⟨_, _, rfl⟩
  · simp only [if_true]
    have e : (9223372036854775808 + (9218868437227405312 + f)) % 9223372036854775808 = 9218868437227405312 + f := by omega
    rw [e, if_neg (by omega), if_neg (by omega), if_neg (by omega)]
    exact ⟨_, _, rfl⟩
def Nan (b : Nat) : Prop := ∃ t u, Ieee.double.read b = .nan t u
theorem nan_drawn (x y t : Nat) : Nan (Question.cut (.nanBits .f64 x y) t) := by
  have h := nan_read (s := (t % 2 == 1)) (f := 1 + (t / 2) % 4503599627370495) (by omega) (by omega)
  have e : Question.cut (.nanBits .f64 x y) t = Ieee.double.word (t % 2 == 1) (9218868437227405312 + (1 + (t / 2) % 4503599627370495)) := by
    show (t % 2) * 2 ^ 63 + 0x7ff0000000000000 + 1 + (t / 2) % (2 ^ 52 - 1) = _
    unfold Ieee.Format.word
    rw [d_sign]
    have e1 : (2 : Nat) ^ 63 = 9223372036854775808 := by decide
    have e2 : (2 : Nat) ^ 52 - 1 = 4503599627370495 := by decide
    rw [e1, e2]
    by_cases h : t % 2 = 1
    · rw [h]; simp; omega
    · have h' : t % 2 = 0 := by omega
      rw [h']; simp; omega
  rw [e]; exact h
theorem Nan.neq {a b : Nat} (h : Nan a) : FloatKind.f64.format.order a b = none := by obtain ⟨t, u, h⟩ := h; exact nan_order h
theorem Nan.neq' {a b : Nat} (h : Nan b) : FloatKind.f64.format.order a b = none := by obtain ⟨t, u, h⟩ := h; exact nan_order' h
theorem run_bin_nan (t : TypeId) (x y : Nat) (h : floatBits .sub .f64 x y = none) (w : World) : ∃ p : Nat × World, (binOp .sub t (.float .f64 x) (.float .f64 y)).run Try.prog w = .ok (.float .f64 p.1) p.2 ∧ Nan p.1 ∧ p.2 = w.drew := by
  have h' : FloatKind.f64.format.sub x y = none := h
  refine ⟨(_, w.drew), ?_, nan_drawn x y (w.tape w.drawn (.nanBits .f64 x y)), rfl⟩
  simp [binOp, Op.floatArith, h', Question.forced]
  rfl
theorem run_trunc_num {b : Nat} (h : ∀ s t, Ieee.double.read b ≠ .nan s t) (w : World) : (callFunc 154 #[.float .f64 b]).run Try.prog w = .ok (.value (.float .f64 (trB b))) w := by
  rw [run_callFunc_extern Try.func154 (by kernel_rfl) (by kernel_rfl) (by kernel_rfl) (e := Extern.MathFloor.toIntegral "math.archTrunc" .zero) (by kernel_rfl)]
  have e : Extern.MathFloor.toIntegral "math.archTrunc" .zero #[.float .f64 b] = pure (.float .f64 (trB b)) := by
    unfold Extern.MathFloor.toIntegral trB
    show (match Ieee.double.read b with | .nan s t => _ | d => pure (Value.float .f64 (Ieee.double.write (d.integral .zero)))) = _
    cases hr : Ieee.double.read b with
    | nan s t => exact absurd hr (h s t)
    | number s m e => rfl
    | infinity s => rfl
  rw [e]; rfl
theorem quiet_pos (t : Nat) (h : t < 4503599627370496) : 0 < Ieee.double.quiet t ∧ Ieee.double.quiet t < 4503599627370496 := by
  have e : Ieee.double.quiet t = t ||| 2251799813685248 := rfl
  rw [e]
  constructor
  · have := Nat.right_le_or (n := t) (m := 2251799813685248)
    omega
  · exact Nat.or_lt_two_pow (n := 52) h (by decide)
theorem run_trunc_nan {b : Nat} (h : Nan b) (w : World) : ∃ p : Nat × World, (callFunc 154 #[.float .f64 b]).run Try.prog w = .ok (.value (.float .f64 p.1)) p.2 ∧ Nan p.1 ∧ Below w.heap.size w p.2 := by
  obtain ⟨s, t, hr⟩ := h
  rw [run_callFunc_extern Try.func154 (by kernel_rfl) (by kernel_rfl) (by kernel_rfl) (e := Extern.MathFloor.toIntegral "math.archTrunc" .zero) (by kernel_rfl)]
  have e : Extern.MathFloor.toIntegral "math.archTrunc" .zero #[.float .f64 b] = (if FloatKind.f64.format.quiet t = t then pure (.float .f64 b) else do
      let kept ← choose (.extern "math.Floor,Ceil,Trunc,RoundToEven.signallingNaN kept" 2)
      pure (.float .f64 (if kept == 1 then b else FloatKind.f64.encode (.nan s (FloatKind.f64.format.quiet t))))) := by
    unfold Extern.MathFloor.toIntegral
    show (match Ieee.double.read b with | .nan s t => _ | d => pure (Value.float .f64 (Ieee.double.write (d.integral .zero)))) = _
    rw [hr]
  rw [e]
  by_cases hq : FloatKind.f64.format.quiet t = t
  · rw [if_pos hq]
    exact ⟨(b, w), rfl, ⟨s, t, hr⟩, Below.refl _ _⟩
  · rw [if_neg hq]
    have hn : ∀ n : Nat, Nan (if n == 1 then b else FloatKind.f64.encode (.nan s (FloatKind.f64.format.quiet t))) := by
      intro n
      by_cases h1 : n = 1
      · simp only [h1, BEq.rfl, if_true]; exact ⟨s, t, hr⟩
      · have : (n == 1) = false := by simpa using h1
        simp only [this, Bool.false_eq_true, if_false]
        show Nan (Ieee.double.word s (Ieee.double.infRung + Ieee.double.quiet t % Ieee.double.binade))
        rw [d_inf, d_binade]
        have ht : t < 4503599627370496 := by
          unfold Ieee.Format.read at hr
          simp only [d_sign, d_binade, d_inf, d_least] at hr
          split at hr
          · cases hr
          split at hr
          · cases hr
          split at hr
          · cases hr
          · cases hr; omega
        have hq := quiet_pos t ht
        rw [Nat.mod_eq_of_lt hq.2]
        exact nan_read hq.1 hq.2
    refine ⟨((if (Question.cut (.extern "math.Floor,Ceil,Trunc,RoundToEven.signallingNaN kept" 2) (w.tape w.drawn (.extern "math.Floor,Ceil,Trunc,RoundToEven.signallingNaN kept" 2)) == 1) = true then b else FloatKind.f64.encode (.nan s (FloatKind.f64.format.quiet t))), w.drew), ?_, hn (Question.cut (.extern "math.Floor,Ceil,Trunc,RoundToEven.signallingNaN kept" 2) (w.tape w.drawn (.extern "math.Floor,Ceil,Trunc,RoundToEven.signallingNaN kept" 2))), (Below.refl _ _).drew⟩
    simp [Question.forced]
end Go.Proofs.Ytgdhpgjfebinhaa.Ev
