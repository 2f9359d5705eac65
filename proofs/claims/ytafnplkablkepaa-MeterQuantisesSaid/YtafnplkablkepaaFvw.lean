/- The symbolic machine over the program: what is told of it beforehand. -/
import Derived.Test.YtafnplkablkepaaFvx
namespace Go.Proofs.Ytafnplkablkepaa.Ev
set_option linter.unusedSimpArgs false
open Go Go.RowKit
set_option linter.unusedVariables false
theorem run_bits (b : Nat) (w : World) : (callFunc 51 #[.float .f64 b]).run Try.prog w = .ok (.value (.int .u64 b)) w := by
  rw [run_callFunc_extern Try.func51 (by kernel_rfl) (by kernel_rfl) (by kernel_rfl) (e := Extern.MathFloatBits.float64bits) (by kernel_rfl)]
  rfl
theorem run_frombits (b : Int) (w : World) : (callFunc 85 #[.int .u64 b]).run Try.prog w = .ok (.value (.float .f64 b.toNat)) w := by
  rw [run_callFunc_extern Try.func85 (by kernel_rfl) (by kernel_rfl) (by kernel_rfl) (e := Extern.MathFloatBits.float64frombits) (by kernel_rfl)]
  rfl
theorem run_trunc (b : Nat) (k : Int) (h : Rp b k) (hk : InF k) (w : World) : (callFunc 94 #[.float .f64 b]).run Try.prog w = .ok (.value (.float .f64 b)) w := by
  rw [run_callFunc_extern Try.func94 (by kernel_rfl) (by kernel_rfl) (by kernel_rfl) (e := Extern.MathFloor.toIntegral "math.archTrunc" .zero) (by kernel_rfl)]
  have e : Extern.MathFloor.toIntegral "math.archTrunc" .zero #[.float .f64 b] = pure (.float .f64 b) := by
    obtain ⟨s, m, e, hr, _, _⟩ := read_rp h hk.1 hk.2
    have ht := trunc_rp h hk
    unfold Extern.MathFloor.toIntegral
    show (match Ieee.double.read b with | .nan s t => _ | d => pure (Value.float .f64 (Ieee.double.write (d.integral .zero)))) = _
    rw [hr] at ht ⊢
    dsimp only
    rw [ht]
  rw [e]; rfl
def extSL : List (FuncId × (Dom → List SV → Option SV)) := [(51, bitsS), (85, frombitsS), (94, truncS)]
def S0 (P : Program) : Facts := { exts := extL P, extS := extSL }
theorem extSL_ok {ρ : Env} : ∀ p ∈ extSL, ∀ D : Dom, D.Holds ρ → ∀ args v, p.2 D args = some v → ∀ w, (callFunc p.1 (denL ρ σ0 args).toArray).run Try.prog w = .ok (.value (v.den ρ σ0)) w := by
  intro p hp D hD args v hv w
  simp only [extSL, List.mem_cons, List.not_mem_nil, or_false] at hp
  rcases hp with rfl | rfl | rfl
  · exact bitsS_ok run_bits hv w
  · exact frombitsS_ok run_frombits hv w
  · exact truncS_ok run_trunc hD hv w
theorem S0_ok (V : Vs) : (S0 Try.prog).Holds Try.prog (envV V) := ⟨fz, fz, fz, fz, fz, fz, extL_ok, extSL_ok, ⟨fz, fz, fz, fz⟩, fz, fz⟩
/-- A call with literals. -/
theorem lit_call0 {F : Sig} (x : X3) (hz : F.inp = ⟨0, 0, 0⟩) (hb : ((Try.prog.funcs[F.f]?).bind (·.body)).isSome = true) (h0 : startB {} F = true) (h : Tr.chk Try.prog (S0 Try.prog) 100000 60 (.ret x []) (.fn F) {} F.inp = true) :
    ∃ d : D3, d.sz = F.out ∧ d = x.den ⟨[], [], []⟩ ∧ Spec Try.prog F ⟨[], [], []⟩ d.1 d.2.1 d.2.2 :=
  tree_at mixed names S0_ok F (.ret x []) {} ⟨[], [], []⟩ (by rw [hz]; rfl) hb h0 h ⟨fz, fz, fz, fz⟩ (R := fun d => d = x.den ⟨[], [], []⟩) rfl
end Go.Proofs.Ytafnplkablkepaa.Ev
