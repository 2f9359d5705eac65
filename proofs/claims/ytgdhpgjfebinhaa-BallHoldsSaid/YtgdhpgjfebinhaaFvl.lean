/- Regions that draw their order: the proof. -/
import Derived.Test.YtgdhpgjfebinhaaFvk
namespace Go.Proofs.Ytgdhpgjfebinhaa.Ev
set_option linter.unusedSimpArgs false
open Go Go.RowKit
set_option linter.unusedVariables false
set_option linter.unusedSectionVars false
variable {P : Program} {ρ : Env} {Γ : Facts}
variable {ds : List Deferred}

def TA (L : List TrI) (TN : List SV) (i : Nat) : List SV := (L[i]?).elim TN (·.T)
def HA (L : List TrI) (HN : Hp) (i : Nat) : Hp := (L[i]?).elim HN (·.H)
def wT (ops : Array Oper) (t i : Nat) : Bool := (ops[i]?).elim false fun o => decide (o.dst = some t)
def TrI.wr (x : TrI) (b : Nat) : Bool := x.W.contains b || (decide (x.H.length ≤ b) && decide (b < x.Hm.length))
def wB (L : List TrI) (b i : Nat) : Bool := (L[i]?).elim false fun x => x.wr b
def vT (L : List TrI) (TN : List SV) (t i : Nat) : SV := (TA L TN i).getD t uS
def vB (L : List TrI) (HN : Hp) (b i : Nat) : Option Blk := getB (HA L HN i) b

/-- The region, walked in the order of the text. -/
structure Reg (P : Program) (Γ : Facts) (call : CallF) (ops : Array Oper) (L : List TrI) (TN : List SV) (HN : Hp) : Prop where
  size : L.length = ops.size
  ok : ∀ i o x, ops[i]? = some o → L[i]? = some x → TrOk P Γ call ops o x (TA L TN (i + 1)) (HA L HN (i + 1))
  insT : ∀ v ∈ TA L TN 0, v.inside (HA L HN 0).length = true
  insB : ∀ (b : Nat) (y : Blk), (HA L HN 0)[b]? = some (some y) → insideL (HA L HN 0).length y.cells = true

section
variable {call : CallF} {ops : Array Oper} {L : List TrI} {TN : List SV} {HN : Hp} (R : Reg P Γ call ops L TN HN)
include R

theorem Reg.at {i : Nat} (hi : i < ops.size) : ∃ o x, ops[i]? = some o ∧ L[i]? = some x ∧ x.T = TA L TN i ∧ x.H = HA L HN i ∧ TrOk P Γ call ops o x (TA L TN (i + 1)) (HA L HN (i + 1)) := by
  have hl : i < L.length := by rw [R.size]; exact hi
  refine ⟨ops[i], L[i], by simp [hi], by simp [hl], by simp [TA, hl], by simp [HA, hl], R.ok i _ _ (by simp [hi]) (by simp [hl])⟩

theorem Reg.lenS {i : Nat} (hi : i < ops.size) : (HA L HN i).length ≤ (HA L HN (i + 1)).length ∧ ∀ x, L[i]? = some x → (HA L HN (i + 1)).length = x.Hm.length := by
  obtain ⟨o, x, ho, hx, e1, e2, h⟩ := R.at hi
  have e3 : (HA L HN (i + 1)).length = x.Hm.length := by rw [h.nextH]; exact mergeF_length _ _ _ _ h.len
  refine ⟨by rw [e3, ← e2]; exact h.len, fun y hy => ?_⟩
  rw [hx] at hy; cases hy; exact e3
theorem Reg.lenM : ∀ {i j : Nat}, i ≤ j → j ≤ ops.size → (HA L HN i).length ≤ (HA L HN j).length := by
  intro i j hij hj
  induction j with
  | zero => rw [Nat.le_zero.1 hij]; exact Nat.le_refl _
  | succ j ih =>
    by_cases e : i = j + 1
    · rw [e]; exact Nat.le_refl _
    · exact Nat.le_trans (ih (by omega) (by omega)) (R.lenS (by omega)).1
theorem Reg.end_ : TA L TN ops.size = TN ∧ HA L HN ops.size = HN := by
  have : L[ops.size]? = none := List.getElem?_eq_none (by rw [R.size]; exact Nat.le_refl _)
  simp [TA, HA, this]
theorem Reg.lenT : ∀ {i : Nat}, i ≤ ops.size → (TA L TN i).length = (TA L TN 0).length := by
  intro i
  induction i with
  | zero => intro _; rfl
  | succ i ih =>
    intro hi
    obtain ⟨o, x, ho, hx, e1, e2, h⟩ := R.at (i := i) (by omega)
    rw [h.next, stepT_length, e1, ih (by omega)]

theorem Reg.chainB {i b : Nat} (hi : i < ops.size) (hw : wB L b i = false) : vB L HN b (i + 1) = vB L HN b i := by
  obtain ⟨o, x, ho, hx, e1, e2, h⟩ := R.at hi
  simp only [wB, hx, Option.elim_some, TrI.wr, Bool.or_eq_false_iff, Bool.and_eq_false_iff, decide_eq_false_iff_not] at hw
  unfold vB getB
  rw [h.nextH, mergeF_get _ _ _ _ _ h.len, ← e2]
  by_cases hb : b < x.H.length
  · rw [if_pos ⟨hb, by simpa using hw.1⟩]
  · rw [if_neg (fun hc => hb hc.1), List.getElem?_eq_none (by omega), List.getElem?_eq_none (by omega)]
theorem Reg.wroteB {i b : Nat} (hi : i < ops.size) {x : TrI} (hx : L[i]? = some x) (hw : wB L b i = true) : vB L HN b (i + 1) = getB x.Hm b := by
  obtain ⟨o, x', ho, hx', e1, e2, h⟩ := R.at hi
  rw [hx] at hx'; cases hx'
  simp only [wB, hx, Option.elim_some, TrI.wr, Bool.or_eq_true, Bool.and_eq_true, decide_eq_true_eq] at hw
  unfold vB getB
  rw [h.nextH, mergeF_get _ _ _ _ _ h.len]
  rw [if_neg]
  rintro ⟨h1, h2⟩
  rw [Nat.zero_add] at h2
  rcases hw with hw | hw
  · rw [hw] at h2; cases h2
  · omega
theorem Reg.chainT {i t : Nat} (hi : i < ops.size) (hw : wT ops t i = false) : vT L TN t (i + 1) = vT L TN t i := by
  obtain ⟨o, x, ho, hx, e1, e2, h⟩ := R.at hi
  simp only [wT, ho, Option.elim_some, decide_eq_false_iff_not] at hw
  unfold vT
  rw [h.next, ← e1]
  cases hd : o.dst with
  | none => rfl
  | some d =>
    have hne : d ≠ t := fun e => hw (by rw [hd, e])
    simp [stepT, List.getD_eq_getElem?_getD, List.getElem?_set_ne hne]

theorem Reg.insTA : ∀ {i : Nat}, i ≤ ops.size → ∀ v ∈ TA L TN i, v.inside (HA L HN i).length = true := by
  intro i
  induction i with
  | zero => intro _; exact R.insT
  | succ i ih =>
    intro hi v hv
    obtain ⟨o, x, ho, hx, e1, e2, h⟩ := R.at (i := i) (by omega)
    have hl := R.lenS (i := i) (by omega)
    rw [h.next] at hv
    cases hd : o.dst with
    | none => rw [hd] at hv; simp only [stepT] at hv; rw [e1] at hv; exact SV.inside_mono hl.1 _ (ih (by omega) v hv)
    | some d =>
      rw [hd] at hv
      simp only [stepT] at hv
      rcases List.mem_or_eq_of_mem_set hv with hv | rfl
      · rw [e1] at hv; exact SV.inside_mono hl.1 _ (ih (by omega) v hv)
      · rw [← SV.on_inside]
        refine SV.on_mono (fun b hb => ?_) _ h.von
        simp only [mayB, Bool.or_eq_true, Bool.and_eq_true, decide_eq_true_eq] at hb
        rw [hl.2 x hx]
        rcases hb with hb | hb
        · have := h.nlt b (by simpa using hb); have := h.len; simp; omega
        · simp [hb.2]
theorem Reg.mayB_lt {i : Nat} (hi : i < ops.size) {x : TrI} (hx : L[i]? = some x) {b : Nat} (hb : mayB x.H x.Hm x.N b = true) : b < (HA L HN (i + 1)).length := by
  obtain ⟨o, x', ho, hx', e1, e2, h⟩ := R.at hi
  rw [hx] at hx'; cases hx'
  rw [(R.lenS hi).2 x hx]
  simp only [mayB, Bool.or_eq_true, Bool.and_eq_true, decide_eq_true_eq] at hb
  rcases hb with hb | hb
  · have := h.nlt b (by simpa using hb); have := h.len; omega
  · exact hb.2
theorem Reg.insBA : ∀ {i : Nat}, i ≤ ops.size → ∀ b y, vB L HN b i = some y → insideL (HA L HN i).length y.cells = true := by
  intro i
  induction i with
  | zero => intro _ b y h; exact R.insB b y (getB_some h)
  | succ i ih =>
    intro hi b y hy
    obtain ⟨o, x, ho, hx, e1, e2, h⟩ := R.at (i := i) (by omega)
    have hl := R.lenS (i := i) (by omega)
    cases hw : wB L b i with
    | false => rw [R.chainB (by omega) hw] at hy; exact insideL_mono hl.1 _ (ih (by omega) b y hy)
    | true =>
      rw [R.wroteB (by omega) hx hw] at hy
      have hw' := hw
      simp only [wB, hx, Option.elim_some, TrI.wr, Bool.or_eq_true, Bool.and_eq_true, decide_eq_true_eq] at hw'
      rw [← onL_inside]
      exact onL_mono (fun b' hb' => decide_eq_true (R.mayB_lt (by omega) hx hb')) _ (h.won b y (hw'.imp (by simp) (·.1)) (getB_some hy))

/-- A block that is not there at the beginning is made by one of them. -/
theorem Reg.made {b : Nat} : ∀ {j : Nat}, j ≤ ops.size → (HA L HN 0).length ≤ b → b < (HA L HN j).length → ∃ i, i < j ∧ (HA L HN i).length ≤ b ∧ b < (HA L HN (i + 1)).length := by
  intro j
  induction j with
  | zero => intro _ h1 h2; omega
  | succ j ih =>
    intro hj h1 h2
    by_cases h : b < (HA L HN j).length
    · obtain ⟨i, hi, h3⟩ := ih (by omega) h1 h
      exact ⟨i, by omega, h3⟩
    · exact ⟨j, by omega, by omega, h2⟩
end

/-- Blocks that are there when these are done. -/
def av (L : List TrI) (HN : Hp) (N : Nat) (D : Nat → Bool) (b : Nat) : Bool := decide (b < (HA L HN 0).length) || (List.range N).any fun i => D i && (decide ((HA L HN i).length ≤ b) && decide (b < (HA L HN (i + 1)).length))
def HD (L : List TrI) (HN : Hp) (N : Nat) (D : Nat → Bool) : Hp := (List.range HN.length).map fun b => cont D (wB L b) (vB L HN b) N
theorem HD_length (L : List TrI) (HN : Hp) (N : Nat) (D : Nat → Bool) : (HD L HN N D).length = HN.length := by simp [HD]
theorem HD_get {L : List TrI} {HN : Hp} {N : Nat} {D : Nat → Bool} {b : Nat} (hb : b < HN.length) : (HD L HN N D)[b]? = some (cont D (wB L b) (vB L HN b) N) := by simp [HD, hb]
theorem HD_some {L : List TrI} {HN : Hp} {N : Nat} {D : Nat → Bool} {b : Nat} {y : Blk} (h : (HD L HN N D)[b]? = some (some y)) : b < HN.length ∧ cont D (wB L b) (vB L HN b) N = some y := by
  have hb : b < HN.length := by
    have := (List.getElem?_eq_some_iff.1 h).1
    rwa [HD_length] at this
  rw [HD_get hb] at h
  exact ⟨hb, by simpa using h⟩
def WAll (L : List TrI) : List Nat := L.flatMap (·.W)

theorem av_iff {L : List TrI} {HN : Hp} {N : Nat} {D : Nat → Bool} {b : Nat} : av L HN N D b = true ↔ b < (HA L HN 0).length ∨ ∃ i, i < N ∧ D i = true ∧ (HA L HN i).length ≤ b ∧ b < (HA L HN (i + 1)).length := by
  simp only [av, Bool.or_eq_true, decide_eq_true_eq, List.any_eq_true, List.mem_range, Bool.and_eq_true]

/-- How the slots and the world stand when these are done. -/
structure Inv (ds : List Deferred) (P : Program) (ρ : Env) (ops : Array Oper) (L : List TrI) (TN : List SV) (HN : Hp) (σ0 σ : Sg) (w0 : World) (D : Nat → Bool) (a : Act) (w : World) : Prop where
  tv : ∀ t, (cont D (wT ops t) (vT L TN t) ops.size).isAny = false → a.tmps.getD t undef = (cont D (wT ops t) (vT L TN t) ops.size).den ρ σ
  ts : a.tmps.size = (TA L TN 0).length
  df : a.defers = ds
  post : Post P ρ σ0 σ (HA L HN 0) (HD L HN ops.size D) (WAll L) w0 w
  avT : ∀ t, (cont D (wT ops t) (vT L TN t) ops.size).on (av L HN ops.size D) = true
  avB : ∀ b y, cont D (wB L b) (vB L HN b) ops.size = some y → onL (av L HN ops.size D) y.cells = true

/-- What an operation does to the world. -/
structure OpFx (P : Program) (ρ : Env) (σ σ' : Sg) (x : TrI) (w w' : World) : Prop where
  ext : σ.agree x.H.length σ'
  blk : ∀ b y, (b ∈ x.W ∨ x.H.length ≤ b) → x.Hm[b]? = some (some y) → BlkAt P ρ σ' y (σ'.pl b) w'
  inj : ∀ b b' y y', (b ∈ x.W ∨ x.H.length ≤ b) → (b' ∈ x.W ∨ x.H.length ≤ b') → x.Hm[b]? = some (some y) → x.Hm[b']? = some (some y') → (y.shd = false ∨ y'.shd = false) → σ'.gh b = none → σ'.gh b' = none → σ'.blk b = σ'.blk b' → b = b'
  new : ∀ b, x.H.length ≤ b → b < x.Hm.length → σ'.gh b = none → w.heap.size ≤ σ'.blk b ∨ ∃ c ∈ x.W, c < x.H.length ∧ σ.gh c = none ∧ σ.blk c = σ'.blk b
  os : w'.os = w.os
  tape : w'.tape = w.tape
  out : w'.output = w.output
  size : w.heap.size ≤ w'.heap.size
  kd : Kd w w'
  frame : ∀ k, k < w.heap.size → (∀ b ∈ x.W, b < x.H.length → σ.gh b = none → σ.blk b ≠ k) → w'.heap[k]? = w.heap[k]?

def addD (D : Nat → Bool) (j : Nat) : Nat → Bool := fun i => D i || decide (i = j)
theorem addD_self (D : Nat → Bool) (j : Nat) : addD D j j = true := by simp [addD]
theorem addD_ne {D : Nat → Bool} {i j : Nat} (h : i ≠ j) : addD D j i = D i := by simp [addD, h]

/-- The blocks that an operation makes. -/
def TrI.mk_ (x : TrI) (b : Nat) : Bool := decide (x.H.length ≤ b) && decide (b < x.Hm.length)
/-- The first one writes nothing that the second one sees, and makes nothing that it names. -/
def TrI.far (x x' : TrI) : Bool := x'.M.all (fun b => !x.wr b) && x'.N.all (fun b => !x.mk_ b)
/-- Two operations that touch no place in common. -/
def indep (ops : Array Oper) (o : Oper) (x : TrI) (o' : Oper) (x' : TrI) : Bool := x.far x' && (x'.far x && o.apart ops o')

/-- Operations that touch a place in common with this one have come up just if they stand before it. -/
def Ordered (ops : Array Oper) (L : List TrI) (D : Nat → Bool) (j : Nat) : Prop :=
  ∀ i o x o' x', ops[i]? = some o → L[i]? = some x → ops[j]? = some o' → L[j]? = some x' → i ≠ j → (indep ops o x o' x' = false ∨ indep ops o' x' o x = false) → (i < j → D i = true) ∧ (j < i → D i = false)

section
variable {call : CallF} {ops : Array Oper} {L : List TrI} {TN : List SV} {HN : Hp} (R : Reg P Γ call ops L TN HN) {D : Nat → Bool} {j : Nat} (hj : j < ops.size) (hD : D j = false) (hO : Ordered ops L D j)
include R hj hD hO

theorem Reg.ordB {x : TrI} (hx : L[j]? = some x) {b : Nat} (hb : b ∈ x.M) {i : Nat} (hi : i < ops.size) (hij : i ≠ j) (hw : wB L b i = true) : (i < j → D i = true) ∧ (j < i → D i = false) := by
  obtain ⟨o, y, ho, hy, _, _, _⟩ := R.at hi
  obtain ⟨o', x', ho', hx', _, _, _⟩ := R.at hj
  rw [hx] at hx'; cases hx'
  refine hO i o y o' x ho hy ho' hx hij (.inl ?_)
  simp only [wB, hy, Option.elim_some] at hw
  unfold indep TrI.far
  have : x.M.all (fun b => !y.wr b) = false := by
    cases h : x.M.all (fun b => !y.wr b) with
    | false => rfl
    | true => have := List.all_eq_true.1 h b hb; rw [hw] at this; cases this
  rw [this]; rfl
theorem Reg.ordM {x : TrI} (hx : L[j]? = some x) {b : Nat} (hb : b ∈ x.N) {i : Nat} (hi : i < ops.size) (hij : i ≠ j) {y : TrI} (hy : L[i]? = some y) (hw : y.mk_ b = true) : (i < j → D i = true) ∧ (j < i → D i = false) := by
  obtain ⟨o, y', ho, hy', _, _, _⟩ := R.at hi
  rw [hy] at hy'; cases hy'
  obtain ⟨o', x', ho', hx', _, _, _⟩ := R.at hj
  rw [hx] at hx'; cases hx'
  refine hO i o y o' x ho hy ho' hx hij (.inl ?_)
  unfold indep TrI.far
  have : x.N.all (fun b => !y.mk_ b) = false := by
    cases h : x.N.all (fun b => !y.mk_ b) with
    | false => rfl
    | true => have := List.all_eq_true.1 h b hb; rw [hw] at this; cases this
  rw [this]; simp
theorem Reg.ordN {x : TrI} (hx : L[j]? = some x) {b : Nat} (hb : wB L b j = true) {i : Nat} (hi : i < ops.size) (hij : i ≠ j) {y : TrI} (hy : L[i]? = some y) (hw : b ∈ y.M) : (i < j → D i = true) ∧ (j < i → D i = false) := by
  obtain ⟨o, y', ho, hy', _, _, _⟩ := R.at hi
  rw [hy] at hy'; cases hy'
  obtain ⟨o', x', ho', hx', _, _, _⟩ := R.at hj
  rw [hx] at hx'; cases hx'
  refine hO i o y o' x ho hy ho' hx hij (.inr ?_)
  simp only [wB, hx, Option.elim_some] at hb
  unfold indep TrI.far
  have : y.M.all (fun b => !x.wr b) = false := by
    cases h : y.M.all (fun b => !x.wr b) with
    | false => rfl
    | true => have := List.all_eq_true.1 h b hw; rw [hb] at this; cases this
  rw [this]; rfl
theorem Reg.ordT {o' : Oper} (ho' : ops[j]? = some o') {t : Nat} (ht : t ∈ o'.looksAt ops ∨ o'.dst = some t) {i : Nat} (hi : i < ops.size) (hij : i ≠ j) (hw : wT ops t i = true) : (i < j → D i = true) ∧ (j < i → D i = false) := by
  obtain ⟨o, y, ho, hy, _, _, _⟩ := R.at hi
  obtain ⟨o2, x', ho2, hx', _, _, _⟩ := R.at hj
  rw [ho'] at ho2; cases ho2
  refine hO i o y o' x' ho hy ho' hx' hij (.inl ?_)
  simp only [wT, ho, Option.elim_some, decide_eq_true_eq] at hw
  unfold indep
  have : o.apart ops o' = false := by
    cases h : o.apart ops o' with
    | false => rfl
    | true =>
      obtain ⟨h1, h2, h3⟩ := Oper.apart_spec h
      rcases ht with ht | ht
      · exact absurd ht (h1 t hw)
      · exact absurd ht (h2 t hw)
  rw [this]; simp
end
end Go.Proofs.Ytgdhpgjfebinhaa.Ev
