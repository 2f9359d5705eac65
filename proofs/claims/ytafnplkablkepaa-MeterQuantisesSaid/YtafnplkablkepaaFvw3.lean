/- The machine over the program: the bits of floats of single precision. -/
import Derived.Test.YtafnplkablkepaaFvw2
namespace Go.Proofs.Ytafnplkablkepaa.Ev
set_option linter.unusedSimpArgs false
open Go Go.RowKit
set_option maxRecDepth 100000
theorem run_bits32 (b : Nat) (w : World) : (callFunc 46 #[.float .f32 b]).run Try.prog w = .ok (.value (.int .u32 b)) w := by
  rw [run_callFunc_extern Try.func46 (by kernel_rfl) (by kernel_rfl) (by kernel_rfl) (e := Extern.MathFloatBits.float32bits) (by kernel_rfl)]
  rfl
def bits32S : Dom → List SV → Option SV
  | _, [.float .f32 e] => some (.int .u32 (nneg e))
  | _, _ => none
theorem bits32S_ok {P : Program} {f : FuncId} (h : ∀ b w, (callFunc f #[.float .f32 b]).run P w = .ok (.value (.int .u32 b)) w) {ρ : Env} {D : Dom} {args : List SV} {v : SV} (hv : bits32S D args = some v) (w : World) : (callFunc f (denL ρ σ0 args).toArray).run P w = .ok (.value (v.den ρ σ0)) w := by
  unfold bits32S at hv
  split at hv
  · cases hv
    simp only [denL, SV.den, nneg_den]
    exact h _ w
  · cases hv
def extSL3 : List (FuncId × (Dom → List SV → Option SV)) := [(51, bitsS), (85, frombitsS), (94, truncS), (46, bits32S)]
theorem extSL3_ok {ρ : Env} : ∀ p ∈ extSL3, ∀ D : Dom, D.Holds ρ → ∀ args v, p.2 D args = some v → ∀ w, (callFunc p.1 (denL ρ σ0 args).toArray).run Try.prog w = .ok (.value (v.den ρ σ0)) w := by
  intro p hp D hD args v hv w
  simp only [extSL3, List.mem_cons, List.not_mem_nil, or_false] at hp
  rcases hp with rfl | rfl | rfl | rfl
  · exact bitsS_ok run_bits hv w
  · exact frombitsS_ok run_frombits hv w
  · exact truncS_ok run_trunc hD hv w
  · exact bits32S_ok run_bits32 hv w
def S3 (P : Program) : Facts := { S2 P with extS := extSL3 }
theorem S3_ok (V : Vs) : (S3 Try.prog).Holds Try.prog (envV V) := ⟨fz, fz, fz, fz, fz, sumsL_ok, extL_ok, extSL3_ok, ⟨fz, fz, fz, fz⟩, fz, nansL_ok⟩
end Go.Proofs.Ytafnplkablkepaa.Ev
