/- What is told of some functions of package math where floats hold whole numbers. -/
import Derived.Test.YtgdhpgjfebinhaaFvv1
namespace Go.Proofs.Ytgdhpgjfebinhaa.Ev
set_option linter.unusedSimpArgs false
open Go Go.RowKit
set_option linter.unusedVariables false
theorem wh_rng {k : Int} {M : Nat} (h : -(M : Int) ≤ k ∧ k ≤ M) : k.natAbs ≤ M := by omega
theorem maxI_eq (x y : Int) : NOp.den .maxI x y = max x y := by
  simp only [NOp.den]; split <;> omega
/-- A number from 0 on. -/
def nneg (e : NE) : NE := match e with
  | .lit n => .lit (max n 0)
  | .toF k a => .toF k a
  | .fneg k a => .fneg k a
  | .fop o k a b => .fop o k a b
  | e => .bin .maxI e (.lit 0)
theorem nneg_den {ρ : Env} (e : NE) : (nneg e).den ρ = ((e.den ρ).toNat : Int) := by
  unfold nneg
  split
  · simp only [NE.den]; omega
  · simp only [NE.den, Int.toNat_natCast]
  · simp only [NE.den, Int.toNat_natCast]
  · simp only [NE.den, Int.toNat_natCast]
  · show NOp.den .maxI (NE.den ρ e) 0 = _
    rw [maxI_eq]; omega
def bitsS : Dom → List SV → Option SV
  | _, [.float .f64 e] => some (.int .u64 (nneg e))
  | _, _ => none
def frombitsS : Dom → List SV → Option SV
  | _, [.int .u64 e] => some (.float .f64 e)
  | _, _ => none
def truncS : Dom → List SV → Option SV
  | D, [.float .f64 e] => if (wh D e).isSome then some (.float .f64 e) else none
  | _, _ => none
/-- The size of a number. -/
def absN (n : NE) : NE := match n with
  | .lit x => .lit x.natAbs
  | n => .bin .maxI n (mkSubI (.lit 0) n)
theorem absN_den {ρ : Env} (n : NE) : (absN n).den ρ = ((n.den ρ).natAbs : Int) := by
  unfold absN
  split
  · rfl
  · show NOp.den .maxI (NE.den ρ n) (NE.den ρ (mkSubI (.lit 0) n)) = _
    rw [maxI_eq, mkSubI_den]; simp only [NE.den]; omega
def absS : Dom → List SV → Option SV
  | D, [.float .f64 e] => (wh D e).map fun x => .float .f64 (.toF .f64 (absN x.1))
  | _, _ => none
def wholeS : Dom → List SV → Option SV
  | D, [.float .f64 e] => match wh D e with
    | some x => if Nat.ble x.2 4503599627370496 then some (.bool (.lit true)) else none
    | none => none
  | _, _ => none
theorem bitsS_ok {P : Program} {f : FuncId} (h : ∀ b w, (callFunc f #[.float .f64 b]).run P w = .ok (.value (.int .u64 b)) w) {ρ : Env} {D : Dom} {args : List SV} {v : SV} (hv : bitsS D args = some v) (w : World) : (callFunc f (denL ρ σ0 args).toArray).run P w = .ok (.value (v.den ρ σ0)) w := by
  unfold bitsS at hv
  split at hv
  · cases hv
    simp only [denL, SV.den, nneg_den]
    exact h _ w
  · cases hv
theorem frombitsS_ok {P : Program} {f : FuncId} (h : ∀ (b : Int) w, (callFunc f #[.int .u64 b]).run P w = .ok (.value (.float .f64 b.toNat)) w) {ρ : Env} {D : Dom} {args : List SV} {v : SV} (hv : frombitsS D args = some v) (w : World) : (callFunc f (denL ρ σ0 args).toArray).run P w = .ok (.value (v.den ρ σ0)) w := by
  unfold frombitsS at hv
  split at hv
  · cases hv
    simp only [denL, SV.den]
    exact h _ w
  · cases hv
theorem truncS_ok {P : Program} {f : FuncId} (h : ∀ (b : Nat) (k : Int), Rp b k → InF k → ∀ w, (callFunc f #[.float .f64 b]).run P w = .ok (.value (.float .f64 b)) w) {ρ : Env} {D : Dom} (hD : D.Holds ρ) {args : List SV} {v : SV} (hv : truncS D args = some v) (w : World) : (callFunc f (denL ρ σ0 args).toArray).run P w = .ok (.value (v.den ρ σ0)) w := by
  unfold truncS at hv
  split at hv
  · split at hv <;> cases hv
    rename_i hs
    obtain ⟨x, hx⟩ := Option.isSome_iff_exists.1 hs
    have := wh_ok hD hx
    simp only [denL, SV.den]
    exact h _ _ this.rp this.inF w
  · cases hv
theorem absS_ok {P : Program} {f : FuncId} (h : ∀ (b : Nat) (k : Int), Rp b k → InF k → ∀ w, Calls P f #[.float .f64 b] w fun e w' => e = .returned (.float .f64 (fi (k.natAbs : Int))) ∧ Below w.heap.size w w') {ρ : Env} {D : Dom} (hD : D.Holds ρ) {args : List SV} {v : SV} (hv : absS D args = some v) (w : World) :
    Calls P f (denL ρ σ0 args).toArray w fun e w' => e = .returned (v.den ρ σ0) ∧ Below w.heap.size w w' := by
  unfold absS at hv
  split at hv
  · obtain ⟨x, hx, rfl⟩ := Option.map_eq_some_iff.1 hv
    have := wh_ok hD hx
    simp only [denL, SV.den, NE.den, absN_den, Int.toNat_natCast]
    exact h _ _ this.rp this.inF w
  · cases hv
theorem wholeS_ok {P : Program} {f : FuncId} (h : ∀ (b : Nat) (k : Int), Rp b k → k.natAbs ≤ 4503599627370496 → ∀ w, Calls P f #[.float .f64 b] w fun e w' => e = .returned (.bool true) ∧ Below w.heap.size w w') {ρ : Env} {D : Dom} (hD : D.Holds ρ) {args : List SV} {v : SV} (hv : wholeS D args = some v) (w : World) :
    Calls P f (denL ρ σ0 args).toArray w fun e w' => e = .returned (v.den ρ σ0) ∧ Below w.heap.size w w' := by
  unfold wholeS at hv
  split at hv
  · split at hv
    · rename_i x hx
      split at hv <;> cases hv
      rename_i hs
      have := wh_ok hD hx
      have hle := Nat.le_of_ble_eq_true hs
      simp only [denL, SV.den, BE.den]
      exact h _ _ this.rp (Nat.le_trans this.le hle) w
    · cases hv
  · cases hv
theorem exN_of : ∀ {l : List Int} {k : Nat} {K : List Int → Prop}, l.length = k → K l → exN k K
  | [], 0, K, _, h => h
  | x :: l, k + 1, K, hl, h => ⟨x, exN_of (l := l) (by simpa using hl) h⟩
  | [], k + 1, K, hl, h => by simp at hl
  | x :: l, 0, K, hl, h => by simp at hl
theorem exB_of : ∀ {l : List Bool} {k : Nat} {K : List Bool → Prop}, l.length = k → K l → exB k K
  | [], 0, K, _, h => h
  | x :: l, k + 1, K, hl, h => ⟨x, exB_of (l := l) (by simpa using hl) h⟩
  | [], k + 1, K, hl, h => by simp at hl
  | x :: l, 0, K, hl, h => by simp at hl
theorem exA_of : ∀ {l : List (Int → Int)} {k : Nat} {K : List (Int → Int) → Prop}, l.length = k → K l → exA k K
  | [], 0, K, _, h => h
  | x :: l, k + 1, K, hl, h => ⟨x, exA_of (l := l) (by simpa using hl) h⟩
  | [], k + 1, K, hl, h => by simp at hl
  | x :: l, 0, K, hl, h => by simp at hl
theorem exV_of {z : Sz} {K : D3 → Prop} (h : ∃ d : D3, d.sz = z ∧ K d) : exV z K := by
  obtain ⟨d, rfl, h⟩ := h
  exact exN_of (l := d.1) rfl (exB_of (l := d.2.1) rfl (exA_of (l := d.2.2) rfl h))
/-- A contract that sees no rows. -/
theorem HRel.none {P : Program} {ρ : Env} {σ : Sg} {w : World} : HRel P ρ σ [] w := ⟨fun b x h => by simp at h, fun b b' x x' h => by simp at h⟩
theorem Post.below {P : Program} {ρ : Env} {σ σ' : Sg} {H' : Hp} {w w' : World} (h : Post P ρ σ σ' [] H' [] w w') : Below w.heap.size w w' :=
  ⟨h.os, h.tape, h.out, h.size, fun k hk => h.frame k hk fun b hb => by cases hb⟩
theorem spec_calls {P : Program} {F : Sig} {V : Vs} {xs : List Int} {bs : List Bool} {rs : List (Int → Int)} (h : Spec P F V xs bs rs) (h0 : F.H = []) (hi : insideL 0 F.args = true) (ho : F.r.inside 0 = true) (w : World) :
    Calls P F.f (denL (envV V) σ0 F.args).toArray w fun e w' => e = .returned (F.r.den (envV (V.add xs bs rs)) σ0) ∧ Below w.heap.size w w' := by
  have hh := h σ0 w (by rw [h0]; exact .none)
  refine hh.mono ?_
  rintro e w' ⟨σ', hp, rfl⟩
  rw [h0] at hp
  exact ⟨congrArg _ (SV.den_agree (n := 0) (fun b hb => by omega) _ ho), hp.below⟩
end Go.Proofs.Ytgdhpgjfebinhaa.Ev
