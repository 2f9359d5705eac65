/- The symbolic machine's trees: loops and calls that are walked as they stand, told by theorems of their own. -/
import Derived.Test.YtfgdockgdbdoiaaGreatFvw0
namespace Go.Proofs.YtfgdockgdbdoiaaGreat.Ev
set_option linter.unusedSimpArgs false
open Go Go.RowKit
variable {P : Program}

/-- From ranges alone, and other loops. -/
theorem told_at (hm : P.follows .mixedOrders = true) (hn : namesOk P = true) {S : Facts} {V : Vs} (hS : S.Holds P (envV V)) {lf d : Nat} (D : Dom) (hD : D.Holds (envV V)) (Λ : List LoopF) (hΛ : ∀ l ∈ Λ, l.Ok P (envV V)) {l : LoopF}
    (h : toldChk P S lf d { dom := D, loops := Λ } l = true) : l.Ok P (envV V) :=
  told_loop hm hn hS ⟨(fun _ h => by cases h), (fun _ h => by cases h), (fun _ h => by cases h), hD, hΛ⟩ h

/-- A call with literals hands back a literal. -/
def CallIs (P : Program) (f : FuncId) (args : List SV) (r : SV) : Prop :=
  ∀ w, Calls P f (denL (envV ⟨[], [], []⟩) σ0 args).toArray w fun e w' => e = .returned (r.den (envV ⟨[], [], []⟩) σ0) ∧ Below w.heap.size w w'
def litSig (f : FuncId) (args : List SV) (r : SV) : Sig := ⟨f, ⟨0, 0, 0⟩, ⟨0, 0, 0⟩, args, [], r, []⟩
theorem call_is (hm : P.follows .mixedOrders = true) (hn : namesOk P = true) {S : Facts} (hS : ∀ V, S.Holds P (envV V)) {lf d : Nat} (f : FuncId) (args : List SV) (r : SV)
    (hb : ((P.funcs[f]?).bind (·.body)).isSome = true) (h0 : startB {} (litSig f args r) = true) (hi : insideL 0 args = true) (ho : r.inside 0 = true)
    (h : (Tr.ret ⟨[], [], []⟩ []).chk P S lf d (.fn (litSig f args r)) {} ⟨0, 0, 0⟩ = true) : CallIs P f args r := by
  obtain ⟨x, hz, rfl, hs⟩ := tree_at hm hn hS (litSig f args r) (.ret ⟨[], [], []⟩ []) {} ⟨[], [], []⟩ rfl hb h0 h ⟨(fun _ h => by cases h), (fun _ h => by cases h), (fun _ h => by cases h), (fun _ h => by cases h)⟩ (R := fun d => d = (⟨[], [], []⟩ : X3).den ⟨[], [], []⟩) rfl
  intro w
  refine (hs σ0 w HRel.none).mono fun e w' ⟨σ', hp, he⟩ => ⟨?_, ⟨hp.os, hp.tape, hp.out, hp.size, fun k hk => hp.frame k hk (fun b hb => by cases hb)⟩⟩
  rw [he]
  exact congrArg _ (SV.den_agree (n := 0) (σ := σ0) (σ' := σ') (fun b hb => by omega) _ ho)
/-- A call with literals, in blocks of literals, hands back a literal. -/
theorem callE_is {S : Sig} {M : List Nat} (hN : S.Hn = []) (h : Spec P S ⟨[], [], []⟩ [] [] []) : CallE.Ok P (envV ⟨[], [], []⟩) ⟨S.f, S.args, M, S.H, S.r, []⟩ := by
  intro σ w hr
  have := h σ w hr
  rw [hN] at this
  exact this
end Go.Proofs.YtfgdockgdbdoiaaGreat.Ev
