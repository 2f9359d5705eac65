/- Quotients, rounded down and up, of the program and of the reference. -/
import Derived.Test.YtiekcneeedifmaaFvw1
import Derived.Test.YtiekcneeedifmaaBita
namespace Go.Proofs.Ytiekcneeedifmaa.Ev
set_option linter.unusedSimpArgs false
open Go Go.RowKit
set_option linter.unusedVariables false
set_option maxRecDepth 100000
def whole_Lower_s : Sig := ⟨41, ⟨3, 0, 0⟩, ⟨1, 0, 0⟩, [(.int .i64 (.var 0)), (.int .i64 (.var 1)), (.int .i64 (.var 2))], [], (.int .i64 (.var 3)), []⟩
def whole_Upper_s : Sig := ⟨42, ⟨3, 0, 0⟩, ⟨1, 0, 0⟩, [(.int .i64 (.var 0)), (.int .i64 (.var 1)), (.int .i64 (.var 2))], [], (.int .i64 (.var 3)), []⟩

theorem Spec.of {P : Program} {F : Sig} {V : Vs} {xs : List Int} {bs : List Bool} {rs : List (Int → Int)} (h0 : F.H = []) (hn : F.Hn = []) (hi : insideL 0 F.args = true) (ho : F.r.inside 0 = true)

    (h : ∀ w, Calls P F.f (denL (envV V) σ0 F.args).toArray w fun e w' => e = .returned (F.r.den (envV (V.add xs bs rs)) σ0) ∧ Below w.heap.size w w') : Spec P F V xs bs rs := by

  intro σ w hr

  have ea : denL (envV V) σ F.args = denL (envV V) σ0 F.args := denL_agree (n := 0) (fun b hb => by omega) F.args hi

  rw [ea]

  refine (h w).mono fun e w' ⟨he, hb⟩ => ⟨σ, ?_, ?_⟩

  · rw [h0, hn]

    exact ⟨fun _ _ => ⟨rfl, rfl, rfl, rfl⟩, Nat.le_refl _, HRel.none, fun b h1 h2 => by simp at h2, hb.os, hb.tape, hb.output, hb.size, Kd.same fun k hk => hb.block k hk, fun k hk _ => hb.block k hk, fun _ _ _ => rfl⟩

  · rw [he, SV.den_agree (n := 0) (σ := σ0) (σ' := σ) (fun b hb => by omega) _ ho]

theorem Below.drewN (w : World) (n : Nat) : Below w.heap.size w (w.drewN n) := ⟨rfl, rfl, rfl, Nat.le_refl _, fun _ _ => rfl⟩

theorem lower_s {x y d : Int} (h : DvIn x y d) : Spec Try.prog whole_Lower_s ⟨[x, y, d], [], []⟩ [x * y / d] [] [] :=

  Spec.of rfl rfl rfl rfl fun w => (lower_any x y d (Lib.hid h) w).mono fun e w' ⟨he, n, hw⟩ => ⟨he, hw ▸ Below.drewN w n⟩

theorem upper_s {x y d : Int} (h : DvIn x y d) : Spec Try.prog whole_Upper_s ⟨[x, y, d], [], []⟩ [cdiv (x * y) d] [] [] :=

  Spec.of rfl rfl rfl rfl fun w => (upper_any x y d (Lib.hid h) w).mono fun e w' ⟨he, n, hw⟩ => ⟨he, hw ▸ Below.drewN w n⟩

theorem tdiv_floor {n d q r : Int} (hd : 0 < d) (hr : r = n - d * q) (h0 : 0 ≤ r) (h1 : r < d) : q = n / d :=

  (((Int.ediv_emod_unique hd).2 ⟨by omega, h0, h1⟩).1).symm

theorem ediv_abs' {n d M : Int} (hd : 0 < d) (h0 : -M ≤ n) (h1 : n ≤ M) (hM : 0 ≤ M) : -M ≤ n / d ∧ n / d ≤ M := by

  constructor

  · rw [Int.le_ediv_iff_mul_le hd]

    have : M * 1 ≤ M * d := Int.mul_le_mul_of_nonneg_left (by omega) hM

    rw [Int.neg_mul]; omega

  · have : n / d < M + 1 := by

      rw [Int.ediv_lt_iff_lt_mul hd]

      have : (M + 1) * 1 ≤ (M + 1) * d := Int.mul_le_mul_of_nonneg_left (by omega) (by omega)

      omega

    omega

theorem cdiv_spec' (n : Int) {d : Int} (hd : 0 < d) : n ≤ d * cdiv n d ∧ d * (cdiv n d - 1) < n := by

  have e1 := Int.mul_ediv_add_emod (-n) d

  have e2 := Int.emod_lt_of_pos (-n) hd

  have e3 := Int.emod_nonneg (-n) (show d ≠ 0 by omega)

  unfold cdiv

  constructor

  · rw [Int.mul_neg]; omega

  · rw [Int.mul_sub, Int.mul_neg]; omega

end Go.Proofs.Ytiekcneeedifmaa.Ev
