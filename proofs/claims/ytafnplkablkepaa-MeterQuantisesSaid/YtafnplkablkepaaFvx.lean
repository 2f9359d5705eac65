/- The symbolic machine over the program: what is outside of its functions. -/
import Derived.Test.YtafnplkablkepaaFvw0
import Derived.Laws.Externs
import Derived.Test.YtafnplkablkepaaProg
namespace Go.Proofs.Ytafnplkablkepaa.Ev
set_option linter.unusedSimpArgs false
open Go Go.RowKit
set_option linter.unusedVariables false

def extG (P : Program) (e : Array Value → Sem Value) : List Value → Option Value := fun l => pureRun P (e l.toArray)
theorem extG_ok {P : Program} {f : FuncId} {fn : Func} {e : Array Value → Sem Value} (hf : P.funcs[f]? = some fn) (hname : (fn.name == "runtime.NumGoroutine") = false)
    (hb : fn.body.isNone = true) (hn : Extern.findNext fn = none) (he : Extern.find fn = some e) (args : List Value) (v : Value) (h : extG P e args = some v) (w : World) : (callFunc f args.toArray).run P w = .ok (.value v) w := by
  rw [run_callFunc_extern hf hname hb hn he, pureRun_run h w]; rfl

def extL (P : Program) : List (FuncId × (List Value → Option Value)) :=
  [(51, extG P Extern.MathFloatBits.float64bits),
   (85, extG P Extern.MathFloatBits.float64frombits),
   (94, extG P (Extern.MathFloor.toIntegral "math.archTrunc" .zero)),
   (119, extG P Extern.MathSqrt.sqrt),
   (46, extG P Extern.MathFloatBits.float32bits)]

theorem extL_ok : ∀ p ∈ extL Try.prog, ∀ (args : List Value) v, p.2 args = some v → ∀ w, (callFunc p.1 args.toArray).run Try.prog w = .ok (.value v) w := by
  intro p hp
  simp only [extL, List.mem_cons, List.not_mem_nil, or_false] at hp
  rcases hp with rfl | rfl | rfl | rfl | rfl
  · exact extG_ok Try.func51 (by kernel_rfl) (by kernel_rfl) (by kernel_rfl) (by kernel_rfl)
  · exact extG_ok Try.func85 (by kernel_rfl) (by kernel_rfl) (by kernel_rfl) (by kernel_rfl)
  · exact extG_ok Try.func94 (by kernel_rfl) (by kernel_rfl) (by kernel_rfl) (by kernel_rfl)
  · exact extG_ok Try.func119 (by kernel_rfl) (by kernel_rfl) (by kernel_rfl) (by kernel_rfl)
  · exact extG_ok Try.func46 (by kernel_rfl) (by kernel_rfl) (by kernel_rfl) (by kernel_rfl)

theorem fz {α : Type} {p : α → Prop} : ∀ x ∈ ([] : List α), p x := fun _ h => by cases h
theorem fc {α : Type} {p : α → Prop} {a : α} {l : List α} (h : p a) (t : ∀ x ∈ l, p x) : ∀ x ∈ a :: l, p x := fun x hx => (List.mem_cons.1 hx).elim (fun e => e ▸ h) (t x)
theorem mixed : Try.prog.follows .mixedOrders = true := by kernel_rfl
theorem names : namesOk Try.prog = true := by kernel_rfl
end Go.Proofs.Ytafnplkablkepaa.Ev






