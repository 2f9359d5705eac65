/- The symbolic machine's trees: loops that are walked as they stand, told by theorems of their own. -/
import Derived.Test.YtmodchmadbkfbaaFvw0
namespace Go.Proofs.Ytmodchmadbkfbaa.Ev
set_option linter.unusedSimpArgs false
open Go Go.RowKit
variable {P : Program}

/-- From ranges alone, and other loops. -/
theorem told_at (hm : P.follows .mixedOrders = true) (hn : namesOk P = true) {S : Facts} {V : Vs} (hS : S.Holds P (envV V)) {lf d : Nat} (D : Dom) (hD : D.Holds (envV V)) (Λ : List LoopF) (hΛ : ∀ l ∈ Λ, l.Ok P (envV V)) {l : LoopF}
    (h : toldChk P S lf d { dom := D, loops := Λ } l = true) : l.Ok P (envV V) :=
  told_loop hm hn hS ⟨(fun _ h => by cases h), (fun _ h => by cases h), (fun _ h => by cases h), hD, hΛ⟩ h
end Go.Proofs.Ytmodchmadbkfbaa.Ev
