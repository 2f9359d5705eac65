/- The symbolic machine once more, with its slots in a tree: quicker for the kernel, and the same. -/
import Derived.Test.YtafnplkablkepaaFvq

namespace Go.Proofs.Ytafnplkablkepaa.Ev
set_option linter.unusedSimpArgs false
open Go Go.RowKit
set_option linter.unusedVariables false
set_option linter.unusedSectionVars false
variable {P : Program} {ρ : Env} {Γ : Facts}
variable {ds : List Deferred}

inductive Tm where
  | leaf
  | node (v : SV) (l r : Tm)
  deriving Inhabited
def Tm.get : Tm → Nat → SV
  | .leaf, _ => uS
  | .node v l r, n => match Nat.beq n 0 with
    | true => v
    | false => match Nat.beq (n % 2) 1 with
      | true => l.get (n / 2)
      | false => r.get (n / 2 - 1)
def Tm.put : Nat → Tm → Nat → SV → Tm
  | 0, t, _, _ => t
  | f + 1, .leaf, n, x => match Nat.beq n 0 with
    | true => .node x .leaf .leaf
    | false => match Nat.beq (n % 2) 1 with
      | true => .node uS (Tm.put f .leaf (n / 2) x) .leaf
      | false => .node uS .leaf (Tm.put f .leaf (n / 2 - 1) x)
  | f + 1, .node v l r, n, x => match Nat.beq n 0 with
    | true => .node x l r
    | false => match Nat.beq (n % 2) 1 with
      | true => .node v (Tm.put f l (n / 2) x) r
      | false => .node v l (Tm.put f r (n / 2 - 1) x)
theorem Tm.get_leaf (n : Nat) : Tm.leaf.get n = uS := rfl
theorem Tm.get_node (v : SV) (l r : Tm) (n : Nat) : (Tm.node v l r).get n = if n = 0 then v else if n % 2 = 1 then l.get (n / 2) else r.get (n / 2 - 1) := by
  conv => lhs; unfold Tm.get
  by_cases h : n = 0
  · subst h; rfl
  · have h1 : Nat.beq n 0 = false := by
      cases e : Nat.beq n 0 with
      | false => rfl
      | true => exact absurd (Nat.eq_of_beq_eq_true e) h
    rw [h1, if_neg h]
    by_cases h2 : n % 2 = 1
    · rw [h2]; simp
    · have h3 : Nat.beq (n % 2) 1 = false := by
        cases e : Nat.beq (n % 2) 1 with
        | false => rfl
        | true => exact absurd (Nat.eq_of_beq_eq_true e) h2
      rw [h3, if_neg h2]
theorem beq_true (a : Nat) : Nat.beq a a = true := Nat.beq_refl a
theorem beq_false {a b : Nat} (h : a ≠ b) : Nat.beq a b = false := by
  cases e : Nat.beq a b with
  | false => rfl
  | true => exact absurd (Nat.eq_of_beq_eq_true e) h
theorem Tm.get_put : ∀ (f : Nat) (t : Tm) (n : Nat) (x : SV) (i : Nat), n < 2 ^ f → (Tm.put (f + 1) t n x).get i = if i = n then x else t.get i
  | f, .leaf, n, x, i, h => by
    unfold Tm.put
    by_cases h0 : n = 0
    · subst h0
      simp only [beq_true, Tm.get_node, Tm.get_leaf]
      split <;> simp
    · simp only [beq_false h0]
      by_cases h1 : n % 2 = 1
      · simp only [h1, beq_true, Tm.get_node, Tm.get_leaf]
        cases f with
        | zero => omega
        | succ f =>
          rw [Nat.pow_succ] at h
          rw [Tm.get_put f .leaf (n / 2) x (i / 2) (by omega), Tm.get_leaf]
          by_cases e0 : i = 0
          · subst e0; rw [if_pos rfl, if_neg (by omega)]
          · rw [if_neg e0]
            by_cases e1 : i % 2 = 1
            · rw [if_pos e1]
              by_cases e2 : i = n
              · subst e2; rw [if_pos rfl, if_pos rfl]
              · rw [if_neg (by omega), if_neg e2]
            · rw [if_neg e1, if_neg (by omega)]
      · simp only [beq_false h1, Tm.get_node, Tm.get_leaf]
        cases f with
        | zero => omega
        | succ f =>
          rw [Nat.pow_succ] at h
          rw [Tm.get_put f .leaf (n / 2 - 1) x (i / 2 - 1) (by omega), Tm.get_leaf]
          by_cases e0 : i = 0
          · subst e0; rw [if_pos rfl, if_neg (by omega)]
          · rw [if_neg e0]
            by_cases e1 : i % 2 = 1
            · rw [if_pos e1, if_neg (by omega)]
            · rw [if_neg e1]
              by_cases e2 : i = n
              · subst e2; rw [if_pos rfl, if_pos rfl]
              · rw [if_neg (by omega), if_neg e2]
  | f, .node v l r, n, x, i, h => by
    unfold Tm.put
    by_cases h0 : n = 0
    · subst h0
      simp only [beq_true, Tm.get_node]
      split <;> simp
    · simp only [beq_false h0]
      by_cases h1 : n % 2 = 1
      · simp only [h1, beq_true, Tm.get_node]
        cases f with
        | zero => omega
        | succ f =>
          rw [Nat.pow_succ] at h
          rw [Tm.get_put f l (n / 2) x (i / 2) (by omega)]
          by_cases e0 : i = 0
          · subst e0; rw [if_pos rfl, if_neg (by omega), if_pos rfl]
          · rw [if_neg e0, if_neg e0]
            by_cases e1 : i % 2 = 1
            · rw [if_pos e1, if_pos e1]
              by_cases e2 : i = n
              · subst e2; rw [if_pos rfl, if_pos rfl]
              · rw [if_neg (by omega), if_neg e2]
            · rw [if_neg e1, if_neg e1, if_neg (by omega)]
      · simp only [beq_false h1, Tm.get_node]
        cases f with
        | zero => omega
        | succ f =>
          rw [Nat.pow_succ] at h
          rw [Tm.get_put f r (n / 2 - 1) x (i / 2 - 1) (by omega)]
          by_cases e0 : i = 0
          · subst e0; rw [if_pos rfl, if_neg (by omega), if_pos rfl]
          · rw [if_neg e0, if_neg e0]
            by_cases e1 : i % 2 = 1
            · rw [if_pos e1, if_pos e1, if_neg (by omega)]
            · rw [if_neg e1, if_neg e1]
              by_cases e2 : i = n
              · subst e2; rw [if_pos rfl, if_pos rfl]
              · rw [if_neg (by omega), if_neg e2]

/-- Slots in a tree. -/
structure Sl where
  t : Tm
  n : Nat
  deriving Inhabited
def Sl.toL (T : Sl) : List SV := (List.range T.n).map T.t.get
def Sl.get (T : Sl) (i : Nat) : SV := match Nat.blt i T.n with
  | true => T.t.get i
  | false => uS
def putAll : Nat → List SV → Tm → Tm
  | _, [], t => t
  | i, v :: l, t => putAll (i + 1) l (Tm.put 40 t i v)
def Sl.ofL (l : List SV) : Sl := ⟨putAll 0 l .leaf, l.length⟩
theorem putAll_get : ∀ (l : List SV) (i : Nat) (t : Tm) (k : Nat), i + l.length ≤ 2 ^ 39 → (putAll i l t).get k = if i ≤ k ∧ k < i + l.length then l.getD (k - i) uS else t.get k
  | [], i, t, k, _ => by simp [putAll]; intro h h'; omega
  | v :: l, i, t, k, h => by
    simp only [List.length_cons] at h ⊢
    simp only [putAll]
    rw [putAll_get l (i + 1) _ k (by omega), Tm.get_put 39 t i v k (by omega)]
    by_cases e : k = i
    · subst e
      rw [if_neg (by omega), if_pos rfl, if_pos (by omega)]; simp
    · by_cases e2 : i + 1 ≤ k ∧ k < i + 1 + l.length
      · rw [if_pos e2, if_pos (by omega), show k - i = (k - (i + 1)) + 1 by omega]; simp
      · rw [if_neg e2, if_neg e, if_neg (by omega)]
theorem Sl.ofL_toL {l : List SV} (h : l.length ≤ 2 ^ 39) : (Sl.ofL l).toL = l := by
  apply List.ext_getElem?
  intro k
  simp only [Sl.toL, Sl.ofL, List.getElem?_map, List.getElem?_range]
  by_cases hk : k < l.length
  · rw [List.getElem?_range hk]
    simp only [Option.map_some]
    rw [putAll_get l 0 .leaf k (by omega), if_pos (show 0 ≤ k ∧ k < 0 + l.length by omega), List.getD_eq_getElem?_getD, Nat.sub_zero, List.getElem?_eq_getElem hk]; rfl
  · rw [List.getElem?_eq_none (l := List.range l.length) (by rw [List.length_range]; omega), List.getElem?_eq_none (l := l) (by omega)]; rfl
theorem Sl.length (T : Sl) : T.toL.length = T.n := by simp [Sl.toL]
theorem Sl.getElem? (T : Sl) (i : Nat) : T.toL[i]? = if i < T.n then some (T.t.get i) else none := by
  simp only [Sl.toL, List.getElem?_map]
  by_cases h : i < T.n
  · rw [List.getElem?_range h, if_pos h]; rfl
  · rw [List.getElem?_eq_none (by simp; omega), if_neg h]; rfl
theorem Sl.get_eq (T : Sl) (i : Nat) : T.get i = T.toL.getD i uS := by
  rw [List.getD_eq_getElem?_getD, Sl.getElem?]
  unfold Sl.get
  cases h : Nat.blt i T.n with
  | true => rw [if_pos (Nat.blt_eq.mp h)]; rfl
  | false => rw [if_neg (fun h' => by rw [Nat.blt_eq.mpr h'] at h; cases h)]; rfl
def Sl.put (T : Sl) (d : Nat) (v : SV) : Sl := match Nat.blt d T.n with
  | true => (match Nat.ble T.n 549755813888 with
    | true => ⟨Tm.put 40 T.t d v, T.n⟩
    | false => T)
  | false => T
def Sl.small (T : Sl) : Bool := Nat.ble T.n 549755813888
theorem Sl.put_n (T : Sl) (d : Nat) (v : SV) : (T.put d v).n = T.n := by
  unfold Sl.put; split <;> (try split) <;> rfl
theorem Sl.put_small {T : Sl} (h : T.small = true) (d : Nat) (v : SV) : (T.put d v).small = true := by
  unfold Sl.small at *; rw [Sl.put_n]; exact h
theorem Sl.put_toL {T : Sl} (hs : T.small = true) (d : Nat) (v : SV) : (T.put d v).toL = T.toL.set d v := by
  apply List.ext_getElem?
  intro k
  rw [Sl.getElem?, Sl.put_n]
  have hle := Nat.le_of_ble_eq_true hs
  by_cases hd : d < T.n
  · have e : (T.put d v).t = Tm.put 40 T.t d v := by
      unfold Sl.put; rw [Nat.blt_eq.mpr hd]; unfold Sl.small at hs; simp [hs]
    rw [e, Tm.get_put 39 T.t d v k (by omega)]
    by_cases hk : k = d
    · subst hk; rw [if_pos hd, if_pos rfl, List.getElem?_set_self (by rw [Sl.length]; exact hd)]
    · rw [if_neg hk, List.getElem?_set_ne (Ne.symm hk), Sl.getElem?]
  · have e : T.put d v = T := by
      unfold Sl.put
      cases h : Nat.blt d T.n with
      | true => exact absurd (Nat.blt_eq.mp h) hd
      | false => rfl
    rw [e, List.set_eq_of_length_le (by rw [Sl.length]; omega), Sl.getElem?]

def stepS (T : Sl) (dst : Option Nat) (v : SV) : Sl := match dst with
  | some d => T.put d v
  | none => T
theorem stepS_toL {T : Sl} (hs : T.small = true) (dst : Option Nat) (v : SV) : (stepS T dst v).toL = stepT T.toL dst v := by
  cases dst with
  | none => rfl
  | some d => exact Sl.put_toL hs d v
theorem stepS_small {T : Sl} (hs : T.small = true) (dst : Option Nat) (v : SV) : (stepS T dst v).small = true := by
  cases dst with
  | none => exact hs
  | some d => exact Sl.put_small hs d v

def evOS (T : Sl) : Operand → Option SV
  | .tmp t => (match T.get t with
    | .any _ => none
    | v => some v)
  | .const v => (ofVal 64 v).map normF
  | .func f => some (.func (.func f) [] [])
  | .global _ => none
theorem evOS_eq (T : Sl) (x : Operand) : evOS T x = evO T.toL x := by
  cases x <;> simp only [evOS, evO, Sl.get_eq]
  rfl
def evOsS (T : Sl) : List Operand → Option (List SV)
  | [] => some []
  | x :: l => match evOS T x, evOsS T l with
    | some v, some r => some (v :: r)
    | _, _ => none
theorem evOsS_eq (T : Sl) : ∀ l : List Operand, evOsS T l = evOs T.toL l
  | [] => rfl
  | x :: l => by simp only [evOsS, evOs, evOS_eq, evOsS_eq T l]; rfl
def evPartsS (T : Sl) : List (Nat × Operand) → Option (List (Nat × SV))
  | [] => some []
  | (i, x) :: l => match evOS T x, evPartsS T l with
    | some v, some r => some ((i, v) :: r)
    | _, _ => none
theorem evPartsS_eq (T : Sl) : ∀ l : List (Nat × Operand), evPartsS T l = evParts T.toL l
  | [] => rfl
  | (i, x) :: l => by simp only [evPartsS, evParts, evOS_eq, evPartsS_eq T l]; rfl
def evOptS (T : Sl) : Option Operand → Option (Option SV)
  | none => some none
  | some x => (evOS T x).map some
theorem evOptS_eq (T : Sl) : ∀ x : Option Operand, evOptS T x = evOpt T.toL x
  | none => rfl
  | some x => by simp only [evOptS, evOpt, evOS_eq]
def evGuardS (Γ : Facts) (ops : Array Oper) (T : Sl) : Option (Nat × Bool) → Option Bool
  | none => some true
  | some (j, want) => match (ops[j]?).bind (·.dst) with
    | none => some false
    | some t => match (if Nat.blt t T.n then some (T.t.get t) else none) with
      | some (.bool b) => (res Γ b).map (· == want)
      | some (.any _) => none
      | _ => some false
theorem evGuardS_eq (Γ : Facts) (ops : Array Oper) (T : Sl) (g : Option (Nat × Bool)) : evGuardS Γ ops T g = evGuard Γ ops T.toL g := by
  cases g with
  | none => rfl
  | some p =>
    obtain ⟨j, w⟩ := p
    simp only [evGuardS, evGuard]
    generalize (ops[j]?).bind (·.dst) = q
    cases q with
    | none => rfl
    | some t =>
      simp only
      rw [Sl.getElem?]
      have : (if Nat.blt t T.n = true then some (T.t.get t) else none) = (if t < T.n then some (T.t.get t) else none) := by
        by_cases h : t < T.n
        · rw [if_pos (Nat.blt_eq.mpr h), if_pos h]
        · rw [if_neg (fun h' => h (Nat.blt_eq.mp h')), if_neg h]
      rw [this]; rfl
def evPureS (P : Program) (Γ : Facts) (T : Sl) (o : Oper) : Option SV := match o.op with
  | .move x => evOS T x
  | .assign x => evOS T x
  | .pick c x y => (match evOS T c with
    | some (.bool c) => (match res Γ c with
      | some true => evOS T x
      | some false => evOS T y
      | none => none)
    | _ => none)
  | .binOp op t x y _ => (evOS T x).bind fun X => (evOS T y).bind fun Y => evBin P Γ op t x y X Y
  | .unOp op _ x => (evOS T x).bind fun X => evUn Γ op X
  | .convert s d x => (evOS T x).bind fun X => evConv P Γ s d X
  | .field t x f => (evOS T x).bind fun X => evFieldV P t X f
  | .index t x i => (evOS T x).bind fun X => (evOS T i).bind fun I => evIndex P t X I
  | .extract x i => (evOS T x).bind fun X => evExtract X i
  | _ => none
theorem evPureS_eq (P : Program) (Γ : Facts) (T : Sl) (o : Oper) : evPureS P Γ T o = evPure P Γ T.toL o := by
  obtain ⟨dst, op, ty, pos, after, guard⟩ := o
  cases op <;> simp only [evPureS, evPure, evOS_eq] <;> rfl
def evOpS0 (P : Program) (Γ : Facts) (call : CallF) (T : Sl) (H : Hp) (o : Oper) : Option Out :=
  let u (v : Option SV) : Option Out := v.map fun v => (v, H, [])
  match o.op with
  | .move x => u (evOS T x)
  | .assign x => u (evOS T x)
  | .pick c x y => (match evOS T c with
    | some (.bool c) => (match res Γ c with
      | some true => u (evOS T x)
      | some false => u (evOS T y)
      | none => none)
    | _ => none)
  | .alloc t => (embedZ P t).map fun cs => (.ptr (some ⟨H.length, 0, none⟩), newB cs t H, [])
  | .box t x => (evOS T x).map fun v => (.ptr (some ⟨H.length, 0, none⟩), newB v.cells t H, [])
  | .build t ps => u ((evPartsS T ps.toList).bind fun l => (evBuild P t l).map .agg)
  | .buildSlice t n ps => (evPartsS T ps.toList).bind fun l => (evBuildSlice P t n l).map fun r => (.slice (some ⟨H.length, 0, none⟩) n n, newB r.2 r.1 H, [])
  | .load t x => u ((evAddr (evOS T x)).bind fun a => evLoad P t a H)
  | .store t x y => (evAddr (evOS T x)).bind fun a => (evOS T y).bind fun v => (evStore P t a v H).map fun r => (uS, r.1, r.2)
  | .nilCheck x => (match evOS T x with
    | some (.ptr (some a)) => some (.ptr (some a), H, [])
    | some (.func (.func f) fs cs) => some (.func (.func f) fs cs, H, [])
    | some (.yld b) => some (.yld b, H, [])
    | some (.iface t v) => some (.iface t v, H, [])
    | _ => none)
  | .makeInterface t x => if P.concrete t then u ((evOS T x).map (.iface t)) else none
  | .binOp op t x y _ => u ((evOS T x).bind fun X => (evOS T y).bind fun Y => evBin P Γ op t x y X Y)
  | .unOp op _ x => u ((evOS T x).bind fun X => evUn Γ op X)
  | .convert s d x => u ((evOS T x).bind fun X => evConv P Γ s d X)
  | .makeFunc fn f c => u ((evOsS T f.toList).bind fun f => (evOsS T c.toList).map fun c => .func fn f c)
  | .makeSlice t l c => (evOS T l).bind fun l => (evOS T c).bind fun c => (evMakeSlice P t l c).map fun r => (.slice (some ⟨H.length, 0, none⟩) r.2.2.1 r.2.2.2, newB r.2.1 r.1 H, [])
  | .slice t x lo hi none => u ((evOS T x).bind fun X => (evOptS T lo).bind fun lo => (evOptS T hi).bind fun hi => evSlice P t X lo hi)
  | .fieldAddr s x f => u ((evAddr (evOS T x)).bind fun a => (evField P s a f).map fun a => .ptr (some a))
  | .field t x f => u ((evOS T x).bind fun X => evFieldV P t X f)
  | .indexAddr t x i => u ((evOS T x).bind fun X => (evOS T i).bind fun I => (evIndexAt P t X I).map fun a => .ptr (some a))
  | .index t x i => u ((evOS T x).bind fun X => (evOS T i).bind fun I => evIndex P t X I)
  | .extract x i => u ((evOS T x).bind fun X => evExtract X i)
  | .call c => (match c.callee with
    | .value f => (match evOS T f with
      | some (.func (.func g) fs cs) => if Nat.beq g yieldF then none else (evOsS T c.args.toList).bind fun args => call g (fs ++ args ++ cs) H
      | some (.yld b) => (evOsS T c.args.toList).bind fun args => call yieldF (.yld b :: args) H
      | _ => none)
    | .builtin b => (evOsS T c.args.toList).bind fun args => evBi P Γ b c.argTypes args H
    | .invoke x name => (match evOS T x with
      | some (.iface t v) => (evOsS T c.args.toList).bind fun args => (evMethod P t name).bind fun m => if Nat.beq m yieldF then none else call m (v :: args) H
      | _ => none))
  | _ => none
theorem evOpS0_eq (P : Program) (Γ : Facts) (call : CallF) (T : Sl) (H : Hp) (o : Oper) : evOpS0 P Γ call T H o = evOp0 P Γ call T.toL H o := by
  obtain ⟨dst, op, ty, pos, after, guard⟩ := o
  cases op
  case slice t x lo hi mx => cases mx <;> simp only [evOpS0, evOp0, evOS_eq, evOptS_eq]
  all_goals simp only [evOpS0, evOp0, evOS_eq, evOsS_eq, evPartsS_eq]
  all_goals rfl
def evOpRS (P : Program) (Γ : Facts) (T : Sl) (H : Hp) (o : Oper) : Option Out :=
  let u (v : Option SV) : Option Out := v.map fun v => (v, H, [])
  match o.op with
  | .load t x => (match evOS T x with
    | some (.eptr b i st c) => u (evLoadR P Γ t b i st c H)
    | _ => none)
  | .store t x y => (match evOS T x with
    | some (.eptr b i st c) => (evOS T y).bind fun v => (evStoreR P Γ t b i st c v H).map fun r => (uS, r.1, r.2)
    | _ => none)
  | .nilCheck x => (match evOS T x with
    | some (.eptr b i st c) => some (.eptr b i st c, H, [])
    | _ => none)
  | .fieldAddr s x f => u ((evOS T x).bind fun X => evFieldR P s X f)
  | .indexAddr t x i => u ((evOS T x).bind fun X => (evOS T i).bind fun I => match evIndexR P Γ t X I H with
    | some v => some v
    | none => match evIndexV P t X I H with
      | some v => some v
      | none => evIndexP P Γ t X I H)
  | .index t x i => u ((evOS T x).bind fun X => (evOS T i).bind fun I => evIndexS P Γ t X I)
  | .binOp op t x y _ => u ((evOS T x).bind fun X => (evOS T y).bind fun Y => evNil P Γ op t X Y H)
  | .convert s d x => (evOS T x).bind fun X => (match evBytes P s d X H with
    | some r => some r
    | none => evNan P Γ s d X H)
  | .slice t x lo hi mx => (evOS T x).bind fun X => (evOptS T lo).bind fun lo => (evOptS T hi).bind fun hi => (evOptS T mx).bind fun mx => (match mx with
    | none => u (match evSliceV P t X lo hi H with
      | some v => some v
      | none => evSliceR P Γ t X lo hi H)
    | some m => evSlice3 P t X lo hi (some m) H)
  | .call c => (match c.callee with
    | .builtin b => (evOsS T c.args.toList).bind fun args => (match b, args with
      | .append, args => evAppendR P Γ c.argTypes args H
      | .len, [x] => (c.argTypes[0]?).bind fun t => (evLenR P Γ t x H).map fun n => (.int .i64 n, H, [])
      | _, _ => none)
    | _ => none)
  | _ => none
theorem evOpRS_eq (P : Program) (Γ : Facts) (T : Sl) (H : Hp) (o : Oper) : evOpRS P Γ T H o = evOpR P Γ T.toL H o := by
  obtain ⟨dst, op, ty, pos, after, guard⟩ := o
  cases op <;> simp only [evOpRS, evOpR, evOS_eq, evOsS_eq, evOptS_eq] <;> rfl
def evOpS (P : Program) (Γ : Facts) (call : CallF) (T : Sl) (H : Hp) (o : Oper) : Option Out := match evOpS0 P Γ call T H o with
  | some r => some r
  | none => evOpRS P Γ T H o
theorem evOpS_eq (P : Program) (Γ : Facts) (call : CallF) (T : Sl) (H : Hp) (o : Oper) : evOpS P Γ call T H o = evOp P Γ call T.toL H o := by
  simp only [evOpS, evOp, evOpS0_eq, evOpRS_eq]; rfl
def opTryS (P : Program) (Γ : Facts) (call : CallF) (T : Sl) (H : Hp) (o : Oper) (N M : List Nat) : Option (List Nat × Out) := match evOpS P Γ call T (maskF M 0 H) o with
  | some (v, Hm, W) => if trOk H Hm M N W v = true then some (M, v, Hm, W) else none
  | none => none
def seesS (T : Sl) (o : Oper) (N : List Nat) : List Nat := match o.op with
  | .call _ => N
  | .load _ a => (match evOS T a with | some v => v.ids | none => N)
  | .store _ a _ => (match evOS T a with | some v => v.ids | none => N)
  | .fieldAddr .. | .indexAddr .. | .nilCheck _ | .slice .. | .move _ | .assign _ | .build .. | .makeFunc .. | .binOp .. | .unOp .. | .convert .. | .field .. | .index .. | .extract .. | .makeInterface .. | .pick .. => []
  | _ => N
def opMS (P : Program) (Γ : Facts) (call : CallF) (T : Sl) (H : Hp) (o : Oper) (N : List Nat) : Option (List Nat × Out) := match opTryS P Γ call T H o N ((seesS T o N).filter fun b => decide (b < H.length)) with
  | some r => some r
  | none => if (seesS T o N).length = N.length then none else opTryS P Γ call T H o N N
theorem opTryS_eq (P : Program) (Γ : Facts) (call : CallF) (T : Sl) (H : Hp) (o : Oper) (N M : List Nat) : opTryS P Γ call T H o N M = opTry P Γ call T.toL H o N M := by
  simp only [opTryS, opTry, evOpS_eq]; rfl
theorem seesS_eq (T : Sl) (o : Oper) (N : List Nat) : seesS T o N = sees T.toL o N := by
  obtain ⟨dst, op, ty, pos, after, guard⟩ := o
  cases op <;> simp only [seesS, sees, evOS_eq] <;> rfl
theorem opMS_eq (P : Program) (Γ : Facts) (call : CallF) (T : Sl) (H : Hp) (o : Oper) (N : List Nat) : opMS P Γ call T H o N = opM P Γ call T.toL H o N := by
  simp only [opMS, opM, opTryS_eq, seesS_eq]; rfl
def evTrS (P : Program) (Γ : Facts) (call : CallF) (ops : Array Oper) : List Oper → Sl → Hp → Option (List TrI × Sl × Hp)
  | [], T, H => some ([], T, H)
  | o :: l, T, H => match evGuardS Γ ops T o.guard with
    | some true => (match (match evPureS P Γ T o with | some v => if v.inside 0 then some v else none | none => none) with
      | some v => (match evTrS P Γ call ops l (stepS T o.dst v) H with
          | some (L, T2, H2) => some (⟨T.toL, H, true, [], [], v, maskF [] 0 H, [], true⟩ :: L, T2, H2)
          | none => none)
      | none =>
        let N := (reach H 64 (idsL ((evOsS T o.op.operands.toList).getD [])) []).filter fun b => decide (b < H.length)
        (match opMS P Γ call T H o N with
        | some (M, v, Hm, W) => (match evTrS P Γ call ops l (stepS T o.dst v) (mergeF W 0 H Hm) with
            | some (L, T2, H2) => some (⟨T.toL, H, true, M, N, v, Hm, W, W.isEmpty && Nat.beq H.length Hm.length⟩ :: L, T2, H2)
            | none => none)
        | none => none))
    | some false => (match evTrS P Γ call ops l (stepS T o.dst uS) H with
          | some (L, T2, H2) => some (⟨T.toL, H, false, [], [], uS, H, [], true⟩ :: L, T2, H2)
          | none => none)
    | none => none
def toR3 {α β : Type} : α × Sl × β → α × List SV × β := fun r => (r.1, r.2.1.toL, r.2.2)
theorem evTrS_eq (P : Program) (Γ : Facts) (call : CallF) (ops : Array Oper) : ∀ (l : List Oper) (T : Sl) (H : Hp), T.small = true → (evTrS P Γ call ops l T H).map toR3 = evTr P Γ call ops l T.toL H ∧ ∀ r, evTrS P Γ call ops l T H = some r → r.2.1.small = true
  | [], T, H, hs => ⟨rfl, fun r h => by simp only [evTrS] at h; cases h; exact hs⟩
  | o :: l, T, H, hs => by
    have ih := fun (T' : Sl) H' (hs' : T'.small = true) => evTrS_eq P Γ call ops l T' H' hs'
    simp only [evTrS, evTr, evGuardS_eq, evPureS_eq, evOsS_eq, opMS_eq]
    have fin : ∀ (T1 : Sl) (T1' : List SV) (H1 : Hp) (x : TrI), T1.small = true → T1.toL = T1' →
        (Option.map toR3 (match evTrS P Γ call ops l T1 H1 with | some (L, T2, H2) => some (x :: L, T2, H2) | none => none) = (match evTr P Γ call ops l T1' H1 with | some (L, T2, H2) => some (x :: L, T2, H2) | none => none)) ∧
        ∀ r, (match evTrS P Γ call ops l T1 H1 with | some (L, T2, H2) => some (x :: L, T2, H2) | none => none) = some r → r.2.1.small = true := by
      intro T1 T1' H1 x h1 h2
      obtain ⟨i1, i2⟩ := ih T1 H1 h1
      rw [← h2, ← i1]
      cases h : evTrS P Γ call ops l T1 H1 with
      | none => exact ⟨rfl, fun r h => by cases h⟩
      | some q => exact ⟨rfl, fun r h' => by cases h'; exact i2 q h⟩
    cases hg : evGuard Γ ops T.toL o.guard with
    | none => exact ⟨rfl, fun r h => by cases h⟩
    | some g =>
      cases g with
      | false => exact fin _ _ _ _ (stepS_small hs _ _) (stepS_toL hs _ _)
      | true =>
        simp only
        have hp : (match evPure P Γ T.toL o with | some v => if v.inside 0 = true then some v else none | none => none) = (evPure P Γ T.toL o).bind fun v => if v.inside 0 = true then some v else none := by
          cases evPure P Γ T.toL o <;> rfl
        cases hv : (evPure P Γ T.toL o).bind fun v => if v.inside 0 = true then some v else none with
        | some v =>
          rw [hv] at hp
          have := fin _ _ H ⟨T.toL, H, true, [], [], v, maskF [] 0 H, [], true⟩ (stepS_small hs o.dst v) (stepS_toL hs o.dst v)
          cases he : evPure P Γ T.toL o with
          | none => rw [he] at hv; cases hv
          | some u =>
            rw [he] at hv
            simp only [Option.bind_some] at hv
            split at hv <;> cases hv
            rename_i hi
            simp only [hi, if_true]
            exact this
        | none =>
          have e2 : ∀ u, evPure P Γ T.toL o = some u → u.inside 0 = false := by
            intro u he
            rw [he] at hv
            simp only [Option.bind_some] at hv
            split at hv
            · cases hv
            · rename_i hi; simpa using hi
          have key : ∀ (N : List Nat), (Option.map toR3 (match opM P Γ call T.toL H o N with | some (M, v, Hm, W) => (match evTrS P Γ call ops l (stepS T o.dst v) (mergeF W 0 H Hm) with | some (L, T2, H2) => some (⟨T.toL, H, true, M, N, v, Hm, W, W.isEmpty && Nat.beq H.length Hm.length⟩ :: L, T2, H2) | none => none) | none => none) = (match opM P Γ call T.toL H o N with | some (M, v, Hm, W) => (match evTr P Γ call ops l (stepT T.toL o.dst v) (mergeF W 0 H Hm) with | some (L, T2, H2) => some (⟨T.toL, H, true, M, N, v, Hm, W, W.isEmpty && Nat.beq H.length Hm.length⟩ :: L, T2, H2) | none => none) | none => none)) ∧
              ∀ r, (match opM P Γ call T.toL H o N with | some (M, v, Hm, W) => (match evTrS P Γ call ops l (stepS T o.dst v) (mergeF W 0 H Hm) with | some (L, T2, H2) => some (⟨T.toL, H, true, M, N, v, Hm, W, W.isEmpty && Nat.beq H.length Hm.length⟩ :: L, T2, H2) | none => none) | none => none) = some r → r.2.1.small = true := by
            intro N
            cases ho : opM P Γ call T.toL H o N with
            | none => exact ⟨rfl, fun r h => by cases h⟩
            | some q =>
              obtain ⟨M, v, Hm, W⟩ := q
              exact fin _ _ _ _ (stepS_small hs _ _) (stepS_toL hs _ _)
          cases he : evPure P Γ T.toL o with
          | none => exact key _
          | some u =>
            have := e2 u he
            simp only [this, Bool.false_eq_true, if_false]
            exact key _
def evSeqS (P : Program) (Γ : Facts) (call : CallF) (ops : Array Oper) : List Oper → Sl → Hp → Option (Sl × Hp × List Nat)
  | [], T, H => some (T, H, [])
  | o :: l, T, H => match evGuardS Γ ops T o.guard with
    | some true => (match evOpS P Γ call T H o with
      | some (v, H1, W1) => (match evSeqS P Γ call ops l (stepS T o.dst v) H1 with
        | some (T2, H2, W2) => some (T2, H2, addW W1 W2)
        | none => none)
      | none => none)
    | some false => evSeqS P Γ call ops l (stepS T o.dst uS) H
    | none => none
def toR2 {β : Type} : Sl × β → List SV × β := fun r => (r.1.toL, r.2)
theorem evSeqS_eq (P : Program) (Γ : Facts) (call : CallF) (ops : Array Oper) : ∀ (l : List Oper) (T : Sl) (H : Hp), T.small = true → (evSeqS P Γ call ops l T H).map toR2 = evSeq P Γ call ops l T.toL H ∧ ∀ r, evSeqS P Γ call ops l T H = some r → r.1.small = true
  | [], T, H, hs => ⟨rfl, fun r h => by simp only [evSeqS] at h; cases h; exact hs⟩
  | o :: l, T, H, hs => by
    have ih := fun (T' : Sl) H' (hs' : T'.small = true) => evSeqS_eq P Γ call ops l T' H' hs'
    simp only [evSeqS, evSeq, evGuardS_eq, evOpS_eq]
    cases hg : evGuard Γ ops T.toL o.guard with
    | none => exact ⟨rfl, fun r h => by cases h⟩
    | some g =>
      cases g with
      | false =>
        obtain ⟨i1, i2⟩ := ih (stepS T o.dst uS) H (stepS_small hs _ _)
        rw [stepS_toL hs] at i1
        exact ⟨i1, i2⟩
      | true =>
        simp only
        cases ho : evOp P Γ call T.toL H o with
        | none => exact ⟨rfl, fun r h => by cases h⟩
        | some q =>
          obtain ⟨v, H1, W1⟩ := q
          simp only
          obtain ⟨i1, i2⟩ := ih (stepS T o.dst v) H1 (stepS_small hs _ _)
          rw [stepS_toL hs] at i1
          rw [← i1]
          cases h : evSeqS P Γ call ops l (stepS T o.dst v) H1 with
          | none => exact ⟨rfl, fun r h => by cases h⟩
          | some q => exact ⟨rfl, fun r h' => by cases h'; exact i2 q h⟩
def evDrawS (P : Program) (Γ : Facts) (call : CallF) (ops : Array Oper) (T : Sl) (H : Hp) : Option (Sl × Hp × List Nat) :=
  match evTrS P Γ call ops ops.toList T H with
  | some (L, T', H') => if statR ops = true ∧ dynP L (ancL ops.toList #[]) = true then some (T', H', L.foldr (fun x W => addW x.W W) []) else none
  | none => none
theorem evDrawS_eq (P : Program) (Γ : Facts) (call : CallF) (ops : Array Oper) (T : Sl) (H : Hp) (hs : T.small = true) : (evDrawS P Γ call ops T H).map toR2 = evDraw P Γ call ops T.toL H ∧ ∀ r, evDrawS P Γ call ops T H = some r → r.1.small = true := by
  obtain ⟨i1, i2⟩ := evTrS_eq P Γ call ops ops.toList T H hs
  simp only [evDrawS, evDraw]
  rw [← i1]
  cases h : evTrS P Γ call ops ops.toList T H with
  | none => exact ⟨rfl, fun r h => by cases h⟩
  | some q =>
    have := i2 q h
    obtain ⟨L, T2, H2⟩ := q
    simp only [Option.map_some, toR3]
    split
    · exact ⟨rfl, fun r h' => by cases h'; exact this⟩
    · exact ⟨rfl, fun r h' => by cases h'⟩
abbrev ResS := Ex × Sl × Hp × List Nat
def toRes : ResS → Res := fun r => (r.1, r.2.1.toL, r.2.2)
def ofRes (r : Res) : ResS := (r.1, Sl.ofL r.2.1, r.2.2)
def smallR (r : Res) : Bool := Nat.ble r.2.1.length 549755813888
theorem ofRes_to {r : Res} (h : smallR r = true) : toRes (ofRes r) = r ∧ (ofRes r).2.1.small = true := by
  have := Nat.le_of_ble_eq_true h
  exact ⟨by simp only [toRes, ofRes, Sl.ofL_toL (show r.2.1.length ≤ 2 ^ 39 from this)], h⟩
def evLoopS (look : Sl → Hp → Option Res) (body : Sl → Hp → Option ResS) : Nat → Sl → Hp → Option ResS
  | 0, _, _ => none
  | n + 1, T, H => match look T H with
    | some r => if smallR r then some (ofRes r) else none
    | none => (match body T H with
      | some (.normal, T1, H1, W1) => (match evLoopS look body n T1 H1 with
        | some (e, T2, H2, W2) => some (e, T2, H2, addW W1 W2)
        | none => none)
      | r => r)
def findQ : List LoopF → FuncId → List Nat → Sl → Hp → Option Res
  | [], _, _, _, _ => none
  | l :: L, f, p, T, H => findL (l :: L) f p T.toL H
theorem findQ_eq (Λ : List LoopF) (f : FuncId) (p : List Nat) (T : Sl) (H : Hp) : findQ Λ f p T H = findL Λ f p T.toL H := by
  cases Λ <;> rfl
def evCS (P : Program) (Γ : Facts) (Λ : List LoopF) (lf : Nat) (call : CallF) (f : FuncId) : Nat → List Nat → Code → Sl → Hp → Option ResS
  | 0, _, _, _, _ => none
  | n + 1, p, c, T, H => match c with
    | .skip => some (.normal, T, H, [])
    | .label _ => some (.normal, T, H, [])
    | .region _ ops false => (evSeqS P Γ call ops ops.toList T H).map fun r => (.normal, r)
    | .region _ ops true => (evDrawS P Γ call ops T H).map fun r => (.normal, r)
    | .seq x y => (match evCS P Γ Λ lf call f n (0 :: p) x T H with
      | some (.normal, T1, H1, W1) => (match evCS P Γ Λ lf call f n (1 :: p) y T1 H1 with
        | some (e, T2, H2, W2) => some (e, T2, H2, addW W1 W2)
        | none => none)
      | r => r)
    | .cond c x y => (match evOS T c with
      | some (.bool b) => (match res Γ b with
        | some true => evCS P Γ Λ lf call f n (0 :: p) x T H
        | some false => evCS P Γ Λ lf call f n (1 :: p) y T H
        | none => none)
      | _ => none)
    | .block id x => (match evCS P Γ Λ lf call f n (0 :: p) x T H with
      | some (.exit id', r) => if id' = id then some (.normal, r) else some (.exit id', r)
      | r => r)
    | .loop x => evLoopS (findQ Λ f p) (evCS P Γ Λ lf call f n (0 :: p) x) lf T H
    | .exit id => some (.exit id, T, H, [])
    | .ret => some (.ret, T, H, [])
    | .scope x => evCS P Γ Λ lf call f n (0 :: p) x T H
    | .rangeFunc g _ _ _ => (evRange P call f p T.toL H (evOS T g)).map fun r => (r.1, T, r.2.1, r.2.2)
    | _ => none
/-- Where the quick one finds something, the other one finds the same. -/
theorem evCS_ok (P : Program) (Γ : Facts) (Λ : List LoopF) (lf : Nat) (call : CallF) (f : FuncId) : ∀ (n : Nat) (p : List Nat) (c : Code) (T : Sl) (H : Hp) (r : ResS), T.small = true → evCS P Γ Λ lf call f n p c T H = some r → evC P Γ Λ lf call f n p c T.toL H = some (toRes r) ∧ r.2.1.small = true
  | 0, p, c, T, H, r, hs, h => by cases h
  | n + 1, p, c, T, H, r, hs, h => by
    have ih := fun p c (T : Sl) H r => evCS_ok P Γ Λ lf call f n p c T H r
    unfold evCS at h
    unfold evC
    cases c
    case skip => cases h; exact ⟨rfl, hs⟩
    case label l => cases h; exact ⟨rfl, hs⟩
    case exit id => cases h; exact ⟨rfl, hs⟩
    case ret => cases h; exact ⟨rfl, hs⟩
    case rangeFunc g ps assign body =>
      simp only at h ⊢
      obtain ⟨q, hq, rfl⟩ := Option.map_eq_some_iff.1 h
      rw [evOS_eq] at hq
      rw [hq]
      exact ⟨rfl, hs⟩
    case region id ops d =>
      cases d with
      | false =>
        simp only at h ⊢
        obtain ⟨i1, i2⟩ := evSeqS_eq P Γ call ops ops.toList T H hs
        obtain ⟨q, hq, rfl⟩ := Option.map_eq_some_iff.1 h
        rw [hq] at i1
        rw [← i1]
        exact ⟨rfl, i2 q hq⟩
      | true =>
        simp only at h ⊢
        obtain ⟨i1, i2⟩ := evDrawS_eq P Γ call ops T H hs
        obtain ⟨q, hq, rfl⟩ := Option.map_eq_some_iff.1 h
        rw [hq] at i1
        rw [← i1]
        exact ⟨rfl, i2 q hq⟩
    case seq x y =>
      simp only at h ⊢
      split at h
      · rename_i T1 H1 W1 h1
        obtain ⟨g1, g2⟩ := ih _ _ _ _ _ hs h1
        rw [g1]
        simp only [toRes]
        split at h
        · rename_i e T2 H2 W2 h2
          cases h
          obtain ⟨k1, k2⟩ := ih _ _ _ _ _ g2 h2
          rw [k1]
          exact ⟨rfl, k2⟩
        · cases h
      · rename_i hn
        obtain ⟨g1, g2⟩ := ih _ _ _ _ _ hs h
        rw [g1]
        obtain ⟨e, T1, H1, W1⟩ := r
        cases e with
        | normal => exact absurd h (hn _ _ _)
        | exit id => exact ⟨rfl, g2⟩
        | ret => exact ⟨rfl, g2⟩
    case cond cc x y =>
      simp only at h ⊢
      rw [evOS_eq] at h
      split at h
      · rename_i b hb
        rw [hb]
        simp only
        split at h
        · rename_i hr; rw [hr]; exact ih _ _ _ _ _ hs h
        · rename_i hr; rw [hr]; exact ih _ _ _ _ _ hs h
        · cases h
      · cases h
    case block id x =>
      simp only at h ⊢
      split at h
      · rename_i id' q h1
        obtain ⟨g1, g2⟩ := ih _ _ _ _ _ hs h1
        rw [g1]
        simp only [toRes]
        split at h
        · rename_i e; cases h; rw [if_pos e]; exact ⟨rfl, g2⟩
        · rename_i e; cases h; rw [if_neg e]; exact ⟨rfl, g2⟩
      · rename_i hn
        obtain ⟨g1, g2⟩ := ih _ _ _ _ _ hs h
        rw [g1]
        obtain ⟨e, q⟩ := r
        cases e with
        | exit id => exact absurd h (hn _ _)
        | normal => exact ⟨rfl, g2⟩
        | ret => exact ⟨rfl, g2⟩
    case loop x =>
      have hb := fun T H (hs : T.small = true) (r : ResS) (h : evCS P Γ Λ lf call f n (0 :: p) x T H = some r) => ih (0 :: p) x T H r hs h
      have key : ∀ (k : Nat) (T : Sl) (H : Hp) (r : ResS), T.small = true → evLoopS (findQ Λ f p) (evCS P Γ Λ lf call f n (0 :: p) x) k T H = some r → evLoop (findL Λ f p) (evC P Γ Λ lf call f n (0 :: p) x) k T.toL H = some (toRes r) ∧ r.2.1.small = true := by
        intro k
        induction k with
        | zero => intro T H r _ h; cases h
        | succ k ihk =>
          intro T H r hs h
          simp only [evLoopS] at h
          simp only [evLoop]
          rw [findQ_eq] at h
          split at h
          · rename_i q hq
            split at h <;> cases h
            rename_i hsm
            rw [hq]
            have := ofRes_to hsm
            simp only
            exact ⟨by rw [this.1], this.2⟩
          · rename_i hq
            rw [hq]
            simp only
            split at h
            · rename_i T1 H1 W1 h1
              obtain ⟨g1, g2⟩ := hb T H hs _ h1
              rw [g1]
              simp only [toRes]
              split at h
              · rename_i e T2 H2 W2 h2
                cases h
                obtain ⟨k1, k2⟩ := ihk _ _ _ g2 h2
                rw [k1]
                exact ⟨rfl, k2⟩
              · cases h
            · rename_i hn
              obtain ⟨g1, g2⟩ := hb T H hs _ h
              rw [g1]
              obtain ⟨e, T1, H1, W1⟩ := r
              cases e with
              | normal => exact absurd h (hn _ _ _)
              | exit id => exact ⟨rfl, g2⟩
              | ret => exact ⟨rfl, g2⟩
      exact key lf T H r hs h
    case scope x => exact ih _ _ _ _ _ hs h
    all_goals cases h
/-- The same code, with what was written handed along: no round of a loop waits for the later ones. -/
def withW (W : List Nat) (r : ResS) : ResS := (r.1, r.2.1, r.2.2.1, addW W r.2.2.2)
theorem addW_nil (W : List Nat) : addW W [] = W := by simp [addW]
theorem nil_addW (W : List Nat) : addW [] W = W := by simp [addW]
theorem addW_assoc (W W1 W2 : List Nat) : addW (addW W W1) W2 = addW W (addW W1 W2) := by
  simp only [addW, List.filter_append, List.append_assoc, List.filter_filter]
  congr 2
  apply List.filter_congr
  intro b _
  simp only [List.contains_eq_mem, List.mem_append, List.mem_filter]
  by_cases h : b ∈ W <;> by_cases h1 : b ∈ W1 <;> simp [h, h1]
def evLoopW (look : Sl → Hp → Option Res) (body : Sl → Hp → List Nat → Option ResS) : Nat → Sl → Hp → List Nat → Option ResS
  | 0, _, _, _ => none
  | n + 1, T, H, W => match look T H with
    | some r => if smallR r then some (withW W (ofRes r)) else none
    | none => (match body T H W with
      | some (.normal, T1, H1, W1) => evLoopW look body n T1 H1 W1
      | r => r)
theorem evLoopW_eq {look : Sl → Hp → Option Res} {body : Sl → Hp → Option ResS} {body' : Sl → Hp → List Nat → Option ResS} (hb : ∀ T H W, body' T H W = (body T H).map (withW W)) : ∀ (n : Nat) (T : Sl) (H : Hp) (W : List Nat), evLoopW look body' n T H W = (evLoopS look body n T H).map (withW W)
  | 0, _, _, _ => rfl
  | n + 1, T, H, W => by
    simp only [evLoopW, evLoopS, hb]
    cases hl : look T H with
    | some r => simp only; split <;> rfl
    | none =>
      simp only
      cases h : body T H with
      | none => rfl
      | some q =>
        obtain ⟨e, T1, H1, W1⟩ := q
        cases e with
        | normal =>
          simp only [Option.map_some, withW]
          rw [evLoopW_eq hb n T1 H1 (addW W W1)]
          cases h2 : evLoopS look body n T1 H1 with
          | none => rfl
          | some q2 => simp only [Option.map_some, withW, addW_assoc]
        | exit id => rfl
        | ret => rfl
def evCW (P : Program) (Γ : Facts) (Λ : List LoopF) (lf : Nat) (call : CallF) (f : FuncId) : Nat → List Nat → Code → Sl → Hp → List Nat → Option ResS
  | 0, _, _, _, _, _ => none
  | n + 1, p, c, T, H, W => match c with
    | .skip => some (.normal, T, H, W)
    | .label _ => some (.normal, T, H, W)
    | .region _ ops false => (match evSeqS P Γ call ops ops.toList T H with
      | some (T1, H1, W1) => some (.normal, T1, H1, addW W W1)
      | none => none)
    | .region _ ops true => (match evDrawS P Γ call ops T H with
      | some (T1, H1, W1) => some (.normal, T1, H1, addW W W1)
      | none => none)
    | .seq x y => (match evCW P Γ Λ lf call f n (0 :: p) x T H W with
      | some (.normal, T1, H1, W1) => evCW P Γ Λ lf call f n (1 :: p) y T1 H1 W1
      | r => r)
    | .cond c x y => (match evOS T c with
      | some (.bool b) => (match res Γ b with
        | some true => evCW P Γ Λ lf call f n (0 :: p) x T H W
        | some false => evCW P Γ Λ lf call f n (1 :: p) y T H W
        | none => none)
      | _ => none)
    | .block id x => (match evCW P Γ Λ lf call f n (0 :: p) x T H W with
      | some (.exit id', r) => if id' = id then some (.normal, r) else some (.exit id', r)
      | r => r)
    | .loop x => evLoopW (findQ Λ f p) (evCW P Γ Λ lf call f n (0 :: p) x) lf T H W
    | .exit id => some (.exit id, T, H, W)
    | .ret => some (.ret, T, H, W)
    | .scope x => evCW P Γ Λ lf call f n (0 :: p) x T H W
    | .rangeFunc g _ _ _ => (evRange P call f p T.toL H (evOS T g)).map fun r => (r.1, T, r.2.1, addW W r.2.2)
    | _ => none
theorem evCW_eq (P : Program) (Γ : Facts) (Λ : List LoopF) (lf : Nat) (call : CallF) (f : FuncId) : ∀ (n : Nat) (p : List Nat) (c : Code) (T : Sl) (H : Hp) (W : List Nat), evCW P Γ Λ lf call f n p c T H W = (evCS P Γ Λ lf call f n p c T H).map (withW W)
  | 0, _, _, _, _, _ => rfl
  | n + 1, p, c, T, H, W => by
    have ih := fun p c T H W => evCW_eq P Γ Λ lf call f n p c T H W
    unfold evCW evCS
    cases c
    case skip => simp [withW, addW_nil]
    case label l => simp [withW, addW_nil]
    case exit id => simp [withW, addW_nil]
    case ret => simp [withW, addW_nil]
    case scope x => exact ih _ _ _ _ _
    case rangeFunc g ps assign body =>
      simp only
      cases evRange P call f p T.toL H (evOS T g) <;> rfl
    case region id ops d =>
      cases d with
      | false =>
        simp only
        cases evSeqS P Γ call ops ops.toList T H <;> rfl
      | true =>
        simp only
        cases evDrawS P Γ call ops T H <;> rfl
    case seq x y =>
      simp only [ih]
      cases h : evCS P Γ Λ lf call f n (0 :: p) x T H with
      | none => rfl
      | some q =>
        obtain ⟨e, T1, H1, W1⟩ := q
        cases e with
        | normal =>
          simp only [Option.map_some, withW]
          cases h2 : evCS P Γ Λ lf call f n (1 :: p) y T1 H1 with
          | none => rfl
          | some q2 => simp only [Option.map_some, withW, addW_assoc]
        | exit id => rfl
        | ret => rfl
    case cond c x y =>
      simp only [ih]
      split
      · split <;> rfl
      · rfl
    case block id x =>
      simp only [ih]
      cases h : evCS P Γ Λ lf call f n (0 :: p) x T H with
      | none => rfl
      | some q =>
        obtain ⟨e, T1, H1, W1⟩ := q
        cases e with
        | normal => rfl
        | exit id' =>
          simp only [Option.map_some, withW]
          split <;> rfl
        | ret => rfl
    case loop x => exact evLoopW_eq (fun T H W => ih (0 :: p) x T H W) lf T H W
    all_goals rfl
theorem evCW_nil {P : Program} {Γ : Facts} {Λ : List LoopF} {lf : Nat} {call : CallF} {f : FuncId} {n : Nat} {p : List Nat} {c : Code} {T : Sl} {H : Hp} {r : ResS} (h : evCW P Γ Λ lf call f n p c T H [] = some r) : evCS P Γ Λ lf call f n p c T H = some r := by
  rw [evCW_eq] at h
  obtain ⟨q, hq, rfl⟩ := Option.map_eq_some_iff.1 h
  rw [hq]; simp [withW, nil_addW]

def evRes1S (P : Program) (T : Sl) (H : Hp) : ResultVar → Option SV
  | .tmp t => if (T.get t).isAny then none else some (T.get t)
  | .cell a t => (evAddrS (T.get a)).bind fun ad => evLoad P t ad H
def evResLS (P : Program) (T : Sl) (H : Hp) : List ResultVar → Option (List SV)
  | [] => some []
  | r :: l => match evRes1S P T H r, evResLS P T H l with
    | some v, some vs => some (v :: vs)
    | _, _ => none
theorem evResLS_eq (P : Program) (T : Sl) (H : Hp) : ∀ l : List ResultVar, evResLS P T H l = evResL P T.toL H l
  | [] => rfl
  | r :: l => by
    have h1 : evRes1S P T H r = evRes1 P T.toL H r := by cases r <;> simp only [evRes1S, evRes1, Sl.get_eq]
    simp only [evResLS, evResL, h1, evResLS_eq P T H l]; rfl
/-- The slots at the beginning of a call. -/
def startS (args : List SV) (n : Nat) : Sl := ⟨putAll 0 args .leaf, args.length + (n - args.length)⟩
theorem startS_toL {args : List SV} {n : Nat} (h : (startS args n).small = true) : (startS args n).toL = args ++ List.replicate (n - args.length) uS := by
  have hle := Nat.le_of_ble_eq_true h
  simp only [startS] at hle
  apply List.ext_getElem?
  intro k
  have hn : (startS args n).n = args.length + (n - args.length) := rfl
  have ht : (startS args n).t = putAll 0 args .leaf := rfl
  rw [Sl.getElem?]
  by_cases hk : k < args.length
  · rw [if_pos (show k < (startS args n).n by rw [hn]; omega), ht, putAll_get args 0 .leaf k (by omega), if_pos (show 0 ≤ k ∧ k < 0 + args.length by omega), List.getElem?_append_left hk, List.getD_eq_getElem?_getD, Nat.sub_zero, List.getElem?_eq_getElem hk]; rfl
  · rw [List.getElem?_append_right (by omega)]
    by_cases hk2 : k < args.length + (n - args.length)
    · rw [if_pos (show k < (startS args n).n by rw [hn]; exact hk2), ht, putAll_get args 0 .leaf k (by omega), if_neg (show ¬ (0 ≤ k ∧ k < 0 + args.length) by omega), Tm.get_leaf, List.getElem?_replicate, if_pos (by omega)]
    · rw [if_neg (show ¬ k < (startS args n).n by rw [hn]; exact hk2), List.getElem?_replicate, if_neg (by omega)]
def evFS (P : Program) (Γ : Facts) (Λ : List LoopF) (lf : Nat) : Nat → CallF
  | 0, _, _, _ => none
  | d + 1, f, args, H => if Nat.beq f yieldF then evYield P (fun g p c T H => let T0 := Sl.ofL T; if T0.small = false then none else (evCW P Γ Λ lf (evFS P Γ Λ lf d) g 1000 p c T0 H []).map toRes) args H else match P.funcs[f]? with
    | none => none
    | some fn => match fn.body with
      | none => (match findF Γ.exts f, litL? args with
        | some g, some l => (match g l with
          | some v => (ofVal 64 v).map fun v => (v, H, [])
          | none => none)
        | _, _ => (match findF Γ.extS f with
          | some g => (match g Γ.dom args with
            | some v => if insideL 0 args && v.inside 0 then some (v, H, []) else none
            | none => none)
          | none => none))
      | some c => match (if insideL 0 args then told Γ f args else none) with
        | some v => if v.inside 0 then some (v, H, []) else none
        | none => match toldH Γ f args H with
         | some r => some r
         | none => let T0 := startS args fn.ntmps; if T0.small = false then none else match evCW P Γ Λ lf (evFS P Γ Λ lf d) f 1000 [] c T0 H [] with
          | some (.exit _, _, _, _) => none
          | some (_, T', H', W') => (evResLS P T' H' fn.results.toList).map fun vs => endCall H (one vs) H' W'
          | none => none
theorem evFS_ok (hm : P.follows .mixedOrders = true) (hn : namesOk P = true) (hΓ : Γ.Holds P ρ) {Λ : List LoopF} (hΛ : ∀ l ∈ Λ, l.Ok P ρ) {lf : Nat} : ∀ d, CallOk P ρ (evFS P Γ Λ lf d)
  | 0 => fun f args H r h => by cases h
  | d + 1 => by
    intro f args H r h σ w hr hin
    simp only [evFS] at h
    split at h
    · rename_i hy
      have hy := Nat.eq_of_beq_eq_true hy
      subst hy
      refine evYield_ok (fun g p c T H r hc hev => ?_) h hr hin
      split at hev
      · cases hev
      · rename_i hsm
        have hsm : (Sl.ofL T).small = true := by simpa using hsm
        obtain ⟨q, hq, rfl⟩ := Option.map_eq_some_iff.1 hev
        obtain ⟨hC, _⟩ := evCS_ok P Γ Λ lf _ _ _ _ _ _ _ _ hsm (evCW_nil hq)
        have eT : (Sl.ofL T).toL = T := Sl.ofL_toL (Nat.le_of_ble_eq_true (by simpa [Sl.small, Sl.ofL] using hsm))
        rw [eT] at hC
        exact evC_ok hm hn hΓ hΛ (evFS_ok hm hn hΓ hΛ d) _ _ _ _ _ _ hc hC
    rename_i hy
    rw [callY_ne (eq_false_of_ne_true hy)]
    split at h
    · cases h
    · rename_i fn hf
      split at h
      · rename_i hb
        split at h
        · rename_i g l hg hl
          split at h
          · rename_i u hu
            obtain ⟨v, hv, rfl⟩ := Option.map_eq_some_iff.1 h
            obtain ⟨e, s⟩ := ofVal_den (ρ := ρ) (σ := σ) _ _ _ hv
            rw [litL_den _ _ hl, hΓ.exts _ (findF_mem hg) l u hu w, ← e]
            exact good_same hr (s _)
          · cases h
        · split at h
          · rename_i g hg
            split at h
            · rename_i v hv
              split at h <;> cases h
              rename_i hin0
              simp only [Bool.and_eq_true] at hin0
              have := hΓ.extS _ (findF_mem hg) Γ.dom hΓ.dom args v hv w
              rw [denL_agree (n := 0) (σ := σ0) (σ' := σ) (fun b hb => by omega) args hin0.1, this, ← SV.den_agree (n := 0) (σ := σ0) (σ' := σ) (fun b hb => by omega) v hin0.2]
              exact good_same hr (SV.inside_mono (Nat.zero_le _) v hin0.2)
            · cases h
          · cases h
      · rename_i c hb
        rw [enters hn hf hb]
        show Calls P f _ w _
        split at h
        · rename_i v hv
          split at hv
          · rename_i h0
            split at h
            · rename_i hv0
              cases h
              have := told_ok hΓ hv w
              rw [denL_agree (n := 0) (σ := σ0) (σ' := σ) (fun b hb => by omega) args h0]
              exact Calls.mono this fun e w' ⟨he, hbl⟩ => ⟨_, he, good_below hr hv0 hbl⟩
            · cases h
          · cases hv
        · split at h
          · rename_i r' hr'
            cases h
            exact toldH_ok hΓ hr hr'
          split at h
          · cases h
          · rename_i hsm
            have hsm : (startS args fn.ntmps).small = true := by simpa using hsm
            split at h
            · cases h
            rename_i e T' H' W' hne hCS
            obtain ⟨hC, _⟩ := evCS_ok P Γ Λ lf _ _ _ _ _ _ _ _ hsm (evCW_nil hCS)
            rw [startS_toL hsm] at hC
            obtain ⟨vs, hvs, rfl⟩ := Option.map_eq_some_iff.1 h
            rw [evResLS_eq] at hvs
            refine (callsIn_wide (n := 0)).1 (callsIn_of_wp_marks hf hb trivial ?_)
            refine evC_ok hm hn hΓ hΛ (evFS_ok hm hn hΓ hΛ d) 1000 [] c _ H _ (by simp [codeAt, sub, hf, hb]) hC none 0 w.heap.size [] σ _ w _ ?_ hr Marks.none ?_
            · refine ⟨fun t _ => ?_, fun v hv => ?_, by simp [denL_length], rfl⟩
              · simp only [List.getD_eq_getElem?_getD, Array.getD_eq_getD_getElem?, Array.getElem?_append, List.getElem?_append, List.size_toArray, denL_length]
                split
                · rename_i hlt
                  simp [denL_map, hlt]
                · by_cases h3 : t - args.length < fn.ntmps - args.length
                  · simp [h3, uS_den]
                  · simp [h3, uS_den]
              · rcases List.mem_append.1 hv with hv | hv
                · exact insideL_mem hin hv
                · rw [(List.mem_replicate.1 hv).2]; rfl
            · intro ds' σ' a' w' hp hT' hM'
              rw [← hT'.defers] at hM'
              have hL := fun R hR => hM'.leaves (F := Fence.wide) (n := 0) (fn := fn) (tmps := a'.tmps) (R := R) hp hR
              cases e with
              | exit id => exact absurd rfl (hne id)
              | normal => exact hL _ fun w2 hp2 => ⟨_, (results_ok hT' hp2.rel hvs).1, _, rfl, endCall_ok hr hp2 (results_ok hT' hp2.rel hvs).2⟩
              | ret => exact hL _ fun w2 hp2 => ⟨_, (results_ok hT' hp2.rel hvs).1, _, rfl, endCall_ok hr hp2 (results_ok hT' hp2.rel hvs).2⟩
            · cases h


theorem calls_of_evS (hm : P.follows .mixedOrders = true) (hn : namesOk P = true) (hΓ : Γ.Holds P ρ) {Λ : List LoopF} (hΛ : ∀ l ∈ Λ, l.Ok P ρ) {lf d : Nat} {f : FuncId} {args : List SV} {v : SV} {H' : Hp} (h : evFS P Γ Λ lf d f args [] = some (v, H', [])) (hv : v.inside 0 = true) (hin : insideL 0 args = true)
    (hb : ((P.funcs[f]?).bind (·.body)).isSome = true) (w : World) : Calls P f (denL ρ σ0 args).toArray w fun e w' => e = .returned (v.den ρ σ0) ∧ Below w.heap.size w w' := by
  have hr : HRel P ρ σ0 [] w := ⟨fun b x h => by simp at h, fun b b' x x' h => by simp at h⟩
  have := evFS_ok hm hn hΓ hΛ d f args [] _ h σ0 w hr hin
  rw [callY_ne (notY hn hb)] at this
  obtain ⟨fn, hf⟩ : ∃ fn, P.funcs[f]? = some fn := by
    cases hf : P.funcs[f]? with
    | none => rw [hf] at hb; cases hb
    | some fn => exact ⟨fn, rfl⟩
  rw [hf] at hb
  obtain ⟨c, hc⟩ := Option.isSome_iff_exists.1 hb
  rw [enters hn hf (by simpa using hc)] at this
  refine Calls.mono this fun e w' ⟨u, he, σ', hp, hu, _⟩ => ⟨?_, hp.os, hp.tape, hp.out, hp.size, fun k hk => hp.frame k hk fun b hb => by cases hb⟩
  rw [he, hu, SV.den_agree (n := 0) (fun b hb => by omega) v hv]

/-- One run of a loop's body, quickly. -/
def stepQ (P : Program) (Γ : Facts) (Λ : List LoopF) (lf d : Nat) (f : FuncId) (p : List Nat) (T : List SV) (H : Hp) (r : Res) : Option (List Pr) := match codeAt P f (0 :: p) with
  | some x => if Nat.ble T.length 549755813888 then (match evCW P Γ Λ lf (evFS P Γ Λ lf d) f 1000 (0 :: p) x (Sl.ofL T) H [] with
    | some (e, T1, H1, W1) => if decide (e = r.1) && okC H H1 W1 r.2.1 r.2.2.1 r.2.2.2 then (match prT T1.toL r.2.1, prH H1 r.2.2.1 with
      | some l1, some l2 => some (l1 ++ l2)
      | _, _ => none) else none
    | none => none) else none
  | none => none
theorem stepQ_ok {ρ' : Env} (hm : P.follows .mixedOrders = true) (hn : namesOk P = true) (hΓ : Γ.Holds P ρ) {Λ : List LoopF} (hΛ : ∀ l ∈ Λ, l.Ok P ρ) {lf d : Nat} {f : FuncId} {p : List Nat} {T : List SV} {H : Hp} {r : Res} {l : List Pr}
    (h : stepQ P Γ Λ lf d f p T H r = some l) (hl : All ρ ρ' l) : ∀ x, codeAt P f p = some (.loop x) → Leads2 P ρ ρ' x T H r := by
  intro x hx
  have hx' : codeAt P f (0 :: p) = some x := codeAt_child hx rfl
  unfold stepQ at h
  rw [hx'] at h
  simp only at h
  split at h
  · rename_i hle
    have hle := Nat.le_of_ble_eq_true hle
    have eT : (Sl.ofL T).toL = T := Sl.ofL_toL hle
    have hsm : (Sl.ofL T).small = true := by
      unfold Sl.small Sl.ofL
      exact Nat.ble_eq.mpr hle
    split at h
    · rename_i e T1 H1 W1 he
      obtain ⟨hC, _⟩ := evCS_ok P Γ Λ lf _ _ _ _ _ _ _ _ hsm (evCW_nil he)
      rw [eT] at hC
      split at h
      · rename_i ho
        simp only [Bool.and_eq_true, decide_eq_true_eq] at ho
        split at h
        · rename_i l1 l2 q1 q2
          cases h
          have := (evC_ok hm hn hΓ hΛ (evFS_ok hm hn hΓ hΛ d) _ _ _ _ _ _ hx' hC).conv q1 q2 ho.2 hl.left hl.right
          obtain ⟨r1, r2, r3, r4⟩ := r
          obtain ⟨h1, h2⟩ := ho
          simp only at h1
          subst h1
          exact this
        · cases h
      · cases h
    · cases h
  · cases h
end Go.Proofs.Ytafnplkablkepaa.Ev

/-! The symbolic machine's environments by their numbers, truths and rows. -/
namespace Go.Proofs.Ytafnplkablkepaa.Ev
set_option linter.unusedSimpArgs false
open Go Go.RowKit
set_option linter.unusedVariables false
set_option linter.unusedSectionVars false
variable {P : Program}
variable {ds : List Deferred}

/-- Numbers, truths, rows. -/
structure Vs where
  L : List Int
  B : List Bool
  A : List (Int → Int)
structure Sz where
  n : Nat
  m : Nat
  q : Nat
  deriving DecidableEq, Inhabited
def Vs.add (V : Vs) (xs : List Int) (bs : List Bool) (rs : List (Int → Int)) : Vs := ⟨V.L ++ xs, V.B ++ bs, V.A ++ rs⟩
def Vs.sz (V : Vs) : Sz := ⟨V.L.length, V.B.length, V.A.length⟩
def Sz.add (z y : Sz) : Sz := ⟨z.n + y.n, z.m + y.m, z.q + y.q⟩
def Sz.le (z y : Sz) : Prop := z.n ≤ y.n ∧ z.m ≤ y.m ∧ z.q ≤ y.q
theorem Sz.le_refl (z : Sz) : z.le z := ⟨Nat.le_refl _, Nat.le_refl _, Nat.le_refl _⟩
theorem Sz.le_trans {x y z : Sz} (h : x.le y) (g : y.le z) : x.le z := ⟨Nat.le_trans h.1 g.1, Nat.le_trans h.2.1 g.2.1, Nat.le_trans h.2.2 g.2.2⟩
theorem Sz.le_add (z y : Sz) : z.le (z.add y) := ⟨Nat.le_add_right _ _, Nat.le_add_right _ _, Nat.le_add_right _ _⟩
theorem Vs.add_sz (V : Vs) (xs : List Int) (bs : List Bool) (rs : List (Int → Int)) : (V.add xs bs rs).sz = V.sz.add ⟨xs.length, bs.length, rs.length⟩ := by
  simp [Vs.add, Vs.sz, Sz.add]
def envV (V : Vs) : Env := ⟨fun i => V.L.getD i 0, fun i => V.B.getD i false, fun _ => .empty, fun _ => .nilFunc, fun i => V.A.getD i (fun _ => 0)⟩

def NE.bel (z : Sz) : NE → Bool
  | .lit _ => true
  | .var i => Nat.blt i z.n
  | .bin _ a b => a.bel z && b.bel z
  | .wrap _ a => a.bel z
  | .toF _ a => a.bel z
  | .fneg _ a => a.bel z
  | .fop _ _ a b => a.bel z && b.bel z
  | .sel a j => a.bel z && j.bel z
  | .avar i => Nat.blt i z.q
  | .aupd a j v => a.bel z && (j.bel z && v.bel z)
  | .acst v => v.bel z
  | .acat a n b => a.bel z && (n.bel z && b.bel z)
  | .aoff a d => a.bel z && d.bel z
def BE.bel (z : Sz) : BE → Bool
  | .lit _ => true
  | .var i => Nat.blt i z.m
  | .icmp _ a b => a.bel z && b.bel z
  | .fcmp _ _ a b => a.bel z && b.bel z
  | .not a => a.bel z
  | .and a b => a.bel z && b.bel z
  | .beq a b => a.bel z && b.bel z
mutual
def SV.bel (z : Sz) : SV → Bool
  | .bool b => b.bel z
  | .int _ e => e.bel z
  | .float _ e => e.bel z
  | .complex _ a b => a.bel z && b.bel z
  | .asl _ n => n.bel z
  | .eptr _ i _ _ => i.bel z
  | .yld _ => true
  | .nanf _ => true
  | .vsl _ _ _ _ => true
  | .rsl _ _ l n => l.bel z && n.bel z
  | .strn e => e.bel z
  | .func _ f c => belL z f && belL z c
  | .iface _ v => v.bel z
  | .agg l => belL z l
  | .tuple l => belL z l
  | _ => true
def belL (z : Sz) : List SV → Bool
  | [] => true
  | v :: l => v.bel z && belL z l
end

/-- More of each. -/
structure Ext (V V' : Vs) : Prop where
  num : ∃ xs, V'.L = V.L ++ xs
  tru : ∃ bs, V'.B = V.B ++ bs
  row : ∃ rs, V'.A = V.A ++ rs
theorem Ext.refl (V : Vs) : Ext V V := ⟨⟨[], by simp⟩, ⟨[], by simp⟩, ⟨[], by simp⟩⟩
theorem Ext.add (V : Vs) (xs : List Int) (bs : List Bool) (rs : List (Int → Int)) : Ext V (V.add xs bs rs) := ⟨⟨xs, rfl⟩, ⟨bs, rfl⟩, ⟨rs, rfl⟩⟩
theorem Ext.n {V V' : Vs} (h : Ext V V') {i : Nat} (hi : i < V.L.length) : (envV V').n i = (envV V).n i := by
  obtain ⟨xs, e⟩ := h.num
  simp only [envV, e, List.getD_eq_getElem?_getD, List.getElem?_append_left hi]
theorem Ext.b {V V' : Vs} (h : Ext V V') {i : Nat} (hi : i < V.B.length) : (envV V').b i = (envV V).b i := by
  obtain ⟨xs, e⟩ := h.tru
  simp only [envV, e, List.getD_eq_getElem?_getD, List.getElem?_append_left hi]
theorem Ext.a {V V' : Vs} (h : Ext V V') {i : Nat} (hi : i < V.A.length) : (envV V').a i = (envV V).a i := by
  obtain ⟨xs, e⟩ := h.row
  simp only [envV, e, List.getD_eq_getElem?_getD, List.getElem?_append_left hi]
theorem Ext.le {V V' : Vs} (h : Ext V V') : V.sz.le V'.sz := by
  obtain ⟨xs, e1⟩ := h.num
  obtain ⟨bs, e2⟩ := h.tru
  obtain ⟨rs, e3⟩ := h.row
  unfold Vs.sz Sz.le
  rw [e1, e2, e3]; simp

section
variable {V V' : Vs} (hE : Ext V V')
include hE
mutual
theorem NE.ext : ∀ e : NE, e.bel V.sz = true → e.den (envV V') = e.den (envV V)
  | .lit _, _ => by simp [NE.den]
  | .var i, h => by simp only [NE.den]; exact hE.n (Nat.blt_eq.mp h)
  | .bin o a b, h => by simp only [NE.bel, Bool.and_eq_true] at h; simp only [NE.den, NE.ext a h.1, NE.ext b h.2]
  | .wrap k a, h => by simp only [NE.bel] at h; simp only [NE.den, NE.ext a h]
  | .toF k a, h => by simp only [NE.bel] at h; simp only [NE.den, NE.ext a h]
  | .fneg k a, h => by simp only [NE.bel] at h; simp only [NE.den, NE.ext a h]
  | .fop o k a b, h => by simp only [NE.bel, Bool.and_eq_true] at h; simp only [NE.den, NE.ext a h.1, NE.ext b h.2]
  | .sel a j, h => by simp only [NE.bel, Bool.and_eq_true] at h; simp only [NE.den, NE.exta a h.1, NE.ext j h.2]
  | .avar _, _ => by simp [NE.den]
  | .aupd _ _ _, _ => by simp [NE.den]
  | .acst _, _ => by simp [NE.den]
  | .acat _ _ _, _ => by simp [NE.den]
  | .aoff _ _, _ => by simp [NE.den]
theorem NE.exta : ∀ e : NE, e.bel V.sz = true → e.aden (envV V') = e.aden (envV V)
  | .avar i, h => by simp only [NE.aden]; exact hE.a (Nat.blt_eq.mp h)
  | .aupd a j v, h => by simp only [NE.bel, Bool.and_eq_true] at h; simp only [NE.aden, NE.exta a h.1, NE.ext j h.2.1, NE.ext v h.2.2]
  | .acst v, h => by simp only [NE.bel] at h; simp only [NE.aden, NE.ext v h]
  | .acat a n b, h => by simp only [NE.bel, Bool.and_eq_true] at h; simp only [NE.aden, NE.exta a h.1, NE.ext n h.2.1, NE.exta b h.2.2]
  | .aoff a d, h => by simp only [NE.bel, Bool.and_eq_true] at h; simp only [NE.aden, NE.exta a h.1, NE.ext d h.2]
  | .lit _, _ => by simp [NE.aden]
  | .var _, _ => by simp [NE.aden]
  | .bin _ _ _, _ => by simp [NE.aden]
  | .wrap _ _, _ => by simp [NE.aden]
  | .toF _ _, _ => by simp [NE.aden]
  | .fneg _ _, _ => by simp [NE.aden]
  | .fop _ _ _ _, _ => by simp [NE.aden]
  | .sel _ _, _ => by simp [NE.aden]
end
theorem BE.ext : ∀ e : BE, e.bel V.sz = true → e.den (envV V') = e.den (envV V)
  | .lit _, _ => rfl
  | .var i, h => hE.b (Nat.blt_eq.mp h)
  | .icmp o a b, h => by simp only [BE.bel, Bool.and_eq_true] at h; simp only [BE.den, NE.ext hE a h.1, NE.ext hE b h.2]
  | .fcmp k o a b, h => by simp only [BE.bel, Bool.and_eq_true] at h; simp only [BE.den, NE.ext hE a h.1, NE.ext hE b h.2]
  | .not a, h => by simp only [BE.bel] at h; simp only [BE.den, a.ext h]
  | .and a b, h => by simp only [BE.bel, Bool.and_eq_true] at h; simp only [BE.den, a.ext h.1, b.ext h.2]
  | .beq a b, h => by simp only [BE.bel, Bool.and_eq_true] at h; simp only [BE.den, a.ext h.1, b.ext h.2]
mutual
theorem SV.ext (σ : Sg) : ∀ v : SV, v.bel V.sz = true → v.den (envV V') σ = v.den (envV V) σ
  | .bool b, h => by simp only [SV.bel] at h; simp only [SV.den, BE.ext hE b h]
  | .int k e, h => by simp only [SV.bel] at h; simp only [SV.den, NE.ext hE e h]
  | .float k e, h => by simp only [SV.bel] at h; simp only [SV.den, NE.ext hE e h]
  | .complex k a b, h => by simp only [SV.bel, Bool.and_eq_true] at h; simp only [SV.den, NE.ext hE a h.1, NE.ext hE b h.2]
  | .asl _ n, h => by simp only [SV.bel] at h; simp only [SV.den, NE.ext hE n h]
  | .eptr _ i _ _, h => by simp only [SV.bel] at h; simp only [SV.den, NE.ext hE i h]
  | .yld _, h => by simp only [SV.den]
  | .nanf _, h => by simp only [SV.den]
  | .vsl _ _ _ _, h => by simp only [SV.den]
  | .rsl _ _ l n, h => by simp only [SV.bel, Bool.and_eq_true] at h; simp only [SV.den, NE.ext hE l h.1, NE.ext hE n h.2]
  | .strn e, h => by simp only [SV.bel] at h; simp only [SV.den, NE.ext hE e h]
  | .func f a c, h => by simp only [SV.bel, Bool.and_eq_true] at h; simp only [SV.den, denL_ext σ a h.1, denL_ext σ c h.2]
  | .iface t v, h => by simp only [SV.bel] at h; simp only [SV.den, v.ext σ h]
  | .agg l, h => by simp only [SV.bel] at h; simp only [SV.den, denL_ext σ l h]
  | .tuple l, h => by simp only [SV.bel] at h; simp only [SV.den, denL_ext σ l h]
  | .str _, _ => rfl
  | .strv _, _ => rfl
  | .any _, _ => rfl
  | .ptr _, _ => rfl
  | .slice _ _ _, _ => rfl
  | .vec _ _, _ => rfl
  | .nilFunc, _ => rfl
  | .nilIface, _ => rfl
theorem denL_ext (σ : Sg) : ∀ l : List SV, belL V.sz l = true → denL (envV V') σ l = denL (envV V) σ l
  | [], _ => rfl
  | v :: l, h => by simp only [belL, Bool.and_eq_true] at h; simp only [denL, v.ext σ h.1, denL_ext σ l h.2]
end
theorem cellsV_ext (j : Int) : ∀ (s : List CK) (l : List NE), (l.all fun e => e.bel V.sz) = true → cellsV (envV V') j s l = cellsV (envV V) j s l
  | [], l, _ => by simp [cellsV]
  | k :: s, [], _ => by cases k <;> simp [cellsV]
  | .int k :: s, a :: l, h => by
    simp only [List.all_cons, Bool.and_eq_true] at h
    simp only [cellsV, NE.exta hE a h.1, cellsV_ext j s l h.2]
  | .float k :: s, a :: l, h => by
    simp only [List.all_cons, Bool.and_eq_true] at h
    simp only [cellsV, NE.exta hE a h.1, cellsV_ext j s l h.2]
  | .bool :: s, a :: l, h => by
    simp only [List.all_cons, Bool.and_eq_true] at h
    simp only [cellsV, NE.exta hE a h.1, cellsV_ext j s l h.2]
  | .str :: s, a :: l, h => by
    simp only [List.all_cons, Bool.and_eq_true] at h
    simp only [cellsV, NE.exta hE a h.1, cellsV_ext j s l h.2]
  | .complex k :: s, [a], _ => by simp [cellsV]
  | .complex k :: s, a :: b :: l, h => by
    simp only [List.all_cons, Bool.and_eq_true] at h
    simp only [cellsV, NE.exta hE a h.1, NE.exta hE b h.2.1, cellsV_ext j s l h.2.2]
end
def absBel (z : Sz) : Option Abs → Bool
  | none => true
  | some A => A.n.bel z && A.cols.all fun e => e.bel z
def blkBel (z : Sz) : Option Blk → Bool
  | some x => belL z x.cells && absBel z x.abs
  | none => true
def belH (z : Sz) : Hp → Bool
  | [] => true
  | x :: l => blkBel z x && belH z l
theorem belH_get {z : Sz} : ∀ {H : Hp} {b : Nat} {x : Blk}, belH z H = true → H[b]? = some (some x) → belL z x.cells = true ∧ absBel z x.abs = true
  | [], b, x, h, hb => by simp at hb
  | y :: l, 0, x, h, hb => by
    simp only [belH, Bool.and_eq_true] at h
    simp at hb; subst hb; simpa [blkBel] using h.1
  | y :: l, b + 1, x, h, hb => by
    simp only [belH, Bool.and_eq_true] at h
    exact belH_get h.2 (by simpa using hb)
theorem belL_mem {z : Sz} : ∀ {l : List SV}, belL z l = true → ∀ v ∈ l, v.bel z = true
  | [], _, _, h => by cases h
  | a :: l, h, v, hv => by
    simp only [belL, Bool.and_eq_true] at h
    rcases List.mem_cons.1 hv with rfl | hv
    · exact h.1
    · exact belL_mem h.2 v hv
/-- A block over more variables. -/
theorem SameBlk.ext {V V' : Vs} (hE : Ext V V') (σ : Sg) {x : Blk} (h : belL V.sz x.cells = true ∧ absBel V.sz x.abs = true) : SameBlk (envV V) (envV V') σ x x := by
  refine ⟨rfl, rfl, rfl, rfl, (fun _ => (denL_ext hE σ _ h.1).symm), (fun _ => ⟨id, fun t ht => ⟨ht, getD_den (denL_ext hE σ _ h.1).symm t⟩⟩), id, fun B hB => ?_⟩
  have h2 := h.2
  rw [hB] at h2
  simp only [absBel, Bool.and_eq_true] at h2
  exact ⟨B, hB, rfl, (NE.ext hE _ h2.1).symm, rfl, fun j s => (cellsV_ext hE j s _ h2.2).symm⟩
theorem SameBlk.symm {ρ ρ' : Env} {σ : Sg} {x : Blk} (h : SameBlk ρ ρ' σ x x) : SameBlk ρ' ρ σ x x := by
  refine ⟨rfl, rfl, rfl, rfl, (fun hn => (h.den hn).symm), (fun hn => ⟨id, fun t ht => ⟨ht, ((h.rcd hn).2 t ht).2.symm⟩⟩), id, fun B hB => ?_⟩
  obtain ⟨A, hA, _, h2, _, h4⟩ := h.some_ B hB
  rw [hB] at hA
  cases hA
  exact ⟨B, hB, rfl, h2.symm, rfl, fun j s => (h4 j s).symm⟩
theorem TRel.to {ρ ρ' : Env} {σ : Sg} {n : Nat} {T : List SV} {a : Act} (h : TRel ds ρ σ n T a) (he : ∀ v ∈ T, v.den ρ' σ = v.den ρ σ) : TRel ds ρ' σ n T a := by
  refine ⟨fun t ht => ?_, h.ins, h.size, h.defers⟩
  rw [h.val t ht]
  by_cases hl : t < T.length
  · rw [List.getD_eq_getElem?_getD, List.getElem?_eq_getElem hl]; exact (he _ (List.getElem_mem hl)).symm
  · rw [List.getD_eq_getElem?_getD, List.getElem?_eq_none (Nat.le_of_not_lt hl)]; rfl
theorem HRel.to {ρ ρ' : Env} {σ : Sg} {H : Hp} {w : World} (h : HRel P ρ σ H w) (he : ∀ (b : Nat) (x : Blk), H[b]? = some (some x) → SameBlk ρ ρ' σ x x) : HRel P ρ' σ H w :=
  ⟨fun b x hb => ⟨(h.blk b x hb).1, (he b x hb).at_ (h.blk b x hb).2⟩, h.inj⟩
section
variable {V V' : Vs} (hE : Ext V V')
include hE
theorem Ext.trel {σ : Sg} {n : Nat} {T : List SV} {a : Act} (hb : belL V.sz T = true) : TRel ds (envV V') σ n T a ↔ TRel ds (envV V) σ n T a :=
  ⟨fun h => h.to fun v hv => (SV.ext hE σ v (belL_mem hb v hv)).symm, fun h => h.to fun v hv => SV.ext hE σ v (belL_mem hb v hv)⟩
theorem Ext.hrel {σ : Sg} {H : Hp} {w : World} (hb : belH V.sz H = true) : HRel P (envV V') σ H w ↔ HRel P (envV V) σ H w :=
  ⟨fun h => h.to fun b x hx => (SameBlk.ext hE σ (belH_get hb hx)).symm, fun h => h.to fun b x hx => SameBlk.ext hE σ (belH_get hb hx)⟩
end
theorem blt_trans {i n n' : Nat} (h : Nat.blt i n = true) (hn : n ≤ n') : Nat.blt i n' = true := Nat.blt_eq.mpr (Nat.lt_of_lt_of_le (Nat.blt_eq.mp h) hn)
theorem NE.bel_mono {z z' : Sz} (hz : z.le z') : ∀ e : NE, e.bel z = true → e.bel z' = true
  | .lit _, _ => rfl
  | .var i, h => blt_trans h hz.1
  | .bin _ a b, h => by simp only [NE.bel, Bool.and_eq_true] at h ⊢; exact ⟨a.bel_mono hz h.1, b.bel_mono hz h.2⟩
  | .wrap _ a, h => by simp only [NE.bel] at h ⊢; exact a.bel_mono hz h
  | .toF _ a, h => by simp only [NE.bel] at h ⊢; exact a.bel_mono hz h
  | .fneg _ a, h => by simp only [NE.bel] at h ⊢; exact a.bel_mono hz h
  | .fop _ _ a b, h => by simp only [NE.bel, Bool.and_eq_true] at h ⊢; exact ⟨a.bel_mono hz h.1, b.bel_mono hz h.2⟩
  | .sel a b, h => by simp only [NE.bel, Bool.and_eq_true] at h ⊢; exact ⟨a.bel_mono hz h.1, b.bel_mono hz h.2⟩
  | .avar i, h => blt_trans h hz.2.2
  | .aupd a b c, h => by simp only [NE.bel, Bool.and_eq_true] at h ⊢; exact ⟨a.bel_mono hz h.1, b.bel_mono hz h.2.1, c.bel_mono hz h.2.2⟩
  | .acst a, h => by simp only [NE.bel] at h ⊢; exact a.bel_mono hz h
  | .acat a b c, h => by simp only [NE.bel, Bool.and_eq_true] at h ⊢; exact ⟨a.bel_mono hz h.1, b.bel_mono hz h.2.1, c.bel_mono hz h.2.2⟩
  | .aoff a b, h => by simp only [NE.bel, Bool.and_eq_true] at h ⊢; exact ⟨a.bel_mono hz h.1, b.bel_mono hz h.2⟩
theorem BE.bel_mono {z z' : Sz} (hz : z.le z') : ∀ e : BE, e.bel z = true → e.bel z' = true
  | .lit _, _ => rfl
  | .var i, h => blt_trans h hz.2.1
  | .icmp _ a b, h => by simp only [BE.bel, Bool.and_eq_true] at h ⊢; exact ⟨a.bel_mono hz h.1, b.bel_mono hz h.2⟩
  | .fcmp _ _ a b, h => by simp only [BE.bel, Bool.and_eq_true] at h ⊢; exact ⟨a.bel_mono hz h.1, b.bel_mono hz h.2⟩
  | .not a, h => by simp only [BE.bel] at h ⊢; exact a.bel_mono hz h
  | .and a b, h => by simp only [BE.bel, Bool.and_eq_true] at h ⊢; exact ⟨a.bel_mono hz h.1, b.bel_mono hz h.2⟩
  | .beq a b, h => by simp only [BE.bel, Bool.and_eq_true] at h ⊢; exact ⟨a.bel_mono hz h.1, b.bel_mono hz h.2⟩
mutual
theorem SV.bel_mono {z z' : Sz} (hz : z.le z') : ∀ v : SV, v.bel z = true → v.bel z' = true
  | .bool b, h => by simp only [SV.bel] at h ⊢; exact b.bel_mono hz h
  | .int k e, h => by simp only [SV.bel] at h ⊢; exact e.bel_mono hz h
  | .float k e, h => by simp only [SV.bel] at h ⊢; exact e.bel_mono hz h
  | .complex k a b, h => by simp only [SV.bel, Bool.and_eq_true] at h ⊢; exact ⟨a.bel_mono hz h.1, b.bel_mono hz h.2⟩
  | .asl _ e, h => by simp only [SV.bel] at h ⊢; exact e.bel_mono hz h
  | .eptr _ e _ _, h => by simp only [SV.bel] at h ⊢; exact e.bel_mono hz h
  | .yld _, h => by simp only [SV.bel]
  | .nanf _, h => by simp only [SV.bel]
  | .vsl _ _ _ _, h => by simp only [SV.bel]
  | .rsl _ _ l n, h => by simp only [SV.bel, Bool.and_eq_true] at h ⊢; exact ⟨l.bel_mono hz h.1, n.bel_mono hz h.2⟩
  | .strn e, h => by simp only [SV.bel] at h ⊢; exact e.bel_mono hz h
  | .func _ f c, h => by simp only [SV.bel, Bool.and_eq_true] at h ⊢; exact ⟨belL_mono hz f h.1, belL_mono hz c h.2⟩
  | .iface _ v, h => by simp only [SV.bel] at h ⊢; exact v.bel_mono hz h
  | .agg l, h => by simp only [SV.bel] at h ⊢; exact belL_mono hz l h
  | .tuple l, h => by simp only [SV.bel] at h ⊢; exact belL_mono hz l h
  | .str _, _ => rfl
  | .strv _, _ => rfl
  | .any _, _ => rfl
  | .ptr _, _ => rfl
  | .slice _ _ _, _ => rfl
  | .vec _ _, _ => rfl
  | .nilFunc, _ => rfl
  | .nilIface, _ => rfl
theorem belL_mono {z z' : Sz} (hz : z.le z') : ∀ l : List SV, belL z l = true → belL z' l = true
  | [], _ => rfl
  | v :: l, h => by simp only [belL, Bool.and_eq_true] at h ⊢; exact ⟨v.bel_mono hz h.1, belL_mono hz l h.2⟩
end
theorem absBel_mono {z z' : Sz} (hz : z.le z') : ∀ A : Option Abs, absBel z A = true → absBel z' A = true
  | none, _ => rfl
  | some A, h => by
    simp only [absBel, Bool.and_eq_true] at h ⊢
    exact ⟨A.n.bel_mono hz h.1, List.all_eq_true.2 fun e he => NE.bel_mono hz e (List.all_eq_true.1 h.2 e he)⟩
theorem belH_mono {z z' : Sz} (hz : z.le z') : ∀ H : Hp, belH z H = true → belH z' H = true
  | [], _ => rfl
  | none :: l, h => by simp only [belH, blkBel, Bool.true_and] at h ⊢; exact belH_mono hz l h
  | some x :: l, h => by simp only [belH, blkBel, Bool.and_eq_true] at h ⊢; exact ⟨⟨belL_mono hz _ h.1.1, absBel_mono hz _ h.1.2⟩, belH_mono hz l h.2⟩

/-- Numbers, truths and rows by their terms. -/
structure X3 where
  ns : List NE
  bs : List BE
  rs : List NE
  deriving Inhabited
def X3.sz (x : X3) : Sz := ⟨x.ns.length, x.bs.length, x.rs.length⟩
def X3.bel (z : Sz) (x : X3) : Bool := x.ns.all (fun e => e.bel z) && (x.bs.all (fun e => e.bel z) && x.rs.all fun e => e.bel z)
def denN (ρ : Env) (l : List NE) : List Int := l.map (·.den ρ)
def denB (ρ : Env) (l : List BE) : List Bool := l.map (·.den ρ)
def denA (ρ : Env) (l : List NE) : List (Int → Int) := l.map (·.aden ρ)
def NE.isA : NE → Bool
  | .avar _ => true
  | .aupd _ _ _ => true
  | .acst _ => true
  | .acat _ _ _ => true
  | .aoff _ _ => true
  | _ => false
theorem NE.isA_den {ρ : Env} {e : NE} (h : e.isA = true) : e.den ρ = 0 := by
  cases e <;> simp_all [NE.isA, NE.den]
theorem NE.isN_aden {ρ : Env} {e : NE} (h : e.isA = false) : e.aden ρ = fun _ => 0 := by
  cases e <;> simp_all [NE.isA, NE.aden]
def asN (e : NE) : NE := if e.isA then .lit 0 else e
def asA (e : NE) : NE := if e.isA then e else .acst (.lit 0)
theorem asN_den (ρ : Env) (e : NE) : (asN e).den ρ = e.den ρ := by
  unfold asN; split
  · rename_i h; rw [NE.isA_den h]; simp [NE.den]
  · rfl
theorem asN_aden (ρ : Env) (e : NE) : (asN e).aden ρ = fun _ => 0 := by
  unfold asN; split
  · simp [NE.aden]
  · rename_i h; exact NE.isN_aden (by simpa using h)
theorem asA_aden (ρ : Env) (e : NE) : (asA e).aden ρ = e.aden ρ := by
  unfold asA; split
  · rfl
  · rename_i h
    have := NE.isN_aden (ρ := ρ) (e := e) (by simpa using h)
    rw [this]; simp [NE.aden, NE.den]
theorem asA_den (ρ : Env) (e : NE) : (asA e).den ρ = 0 := by
  unfold asA; split
  · rename_i h; exact NE.isA_den h
  · simp [NE.den]
/-- Terms put in for the last variables. -/
def NE.sub (z : Sz) (x : X3) : NE → NE
  | .lit n => .lit n
  | .var i => if Nat.blt i z.n then .var i else asN (x.ns.getD (i - z.n) (.lit 0))
  | .bin o a b => .bin o (a.sub z x) (b.sub z x)
  | .wrap k a => .wrap k (a.sub z x)
  | .toF k a => .toF k (a.sub z x)
  | .fneg k a => .fneg k (a.sub z x)
  | .fop o k a b => .fop o k (a.sub z x) (b.sub z x)
  | .sel a j => .sel (a.sub z x) (j.sub z x)
  | .avar i => if Nat.blt i z.q then .avar i else asA (x.rs.getD (i - z.q) (.acst (.lit 0)))
  | .aupd a j v => .aupd (a.sub z x) (j.sub z x) (v.sub z x)
  | .acst v => .acst (v.sub z x)
  | .acat a n b => .acat (a.sub z x) (n.sub z x) (b.sub z x)
  | .aoff a d => .aoff (a.sub z x) (d.sub z x)
def BE.sub (z : Sz) (x : X3) : BE → BE
  | .lit n => .lit n
  | .var i => if Nat.blt i z.m then .var i else x.bs.getD (i - z.m) (.lit false)
  | .icmp o a b => .icmp o (a.sub z x) (b.sub z x)
  | .fcmp k o a b => .fcmp k o (a.sub z x) (b.sub z x)
  | .not a => .not (a.sub z x)
  | .and a b => .and (a.sub z x) (b.sub z x)
  | .beq a b => .beq (a.sub z x) (b.sub z x)
/-- The first ones, and other ones behind. -/
def Vs.cut (V : Vs) (z : Sz) (xs : List Int) (bs : List Bool) (rs : List (Int → Int)) : Vs := ⟨V.L.take z.n ++ xs, V.B.take z.m ++ bs, V.A.take z.q ++ rs⟩
def Vs.put (V : Vs) (z : Sz) (x : X3) : Vs := V.cut z (denN (envV V) x.ns) (denB (envV V) x.bs) (denA (envV V) x.rs)
theorem getD_take_append {α : Type} (L ys : List α) (d : α) (n i : Nat) (hn : n ≤ L.length) : (L.take n ++ ys).getD i d = if i < n then L.getD i d else ys.getD (i - n) d := by
  simp only [List.getD_eq_getElem?_getD, List.getElem?_append, List.length_take, Nat.min_eq_left hn, List.getElem?_take]
  split <;> simp_all
section
variable {V : Vs} {z : Sz} (hz : z.le V.sz) (x : X3)
include hz
mutual
theorem NE.sub_den : ∀ e : NE, (e.sub z x).den (envV V) = e.den (envV (V.put z x))
  | .lit _ => by simp [NE.sub, NE.den]
  | .var i => by
    simp only [NE.sub, NE.den, envV, Vs.put, Vs.cut]
    rw [getD_take_append _ _ _ _ _ hz.1]
    split
    · rename_i h; rw [if_pos (Nat.blt_eq.mp h)]; simp [NE.den]
    · rename_i h
      rw [if_neg (fun h' => h (Nat.blt_eq.mpr h'))]
      rw [asN_den]
      simp only [denN, List.getD_eq_getElem?_getD, List.getElem?_map]
      cases x.ns[i - z.n]? <;> simp [NE.den, envV]
  | .bin o a b => by simp only [NE.sub, NE.den, NE.sub_den a, NE.sub_den b]
  | .wrap k a => by simp only [NE.sub, NE.den, NE.sub_den a]
  | .toF k a => by simp only [NE.sub, NE.den, NE.sub_den a]
  | .fneg k a => by simp only [NE.sub, NE.den, NE.sub_den a]
  | .fop o k a b => by simp only [NE.sub, NE.den, NE.sub_den a, NE.sub_den b]
  | .sel a j => by simp only [NE.sub, NE.den, NE.sub_aden a, NE.sub_den j]
  | .avar i => by
    simp only [NE.sub, NE.den]
    split
    · simp [NE.den]
    · rw [asA_den]
  | .aupd a j v => by simp only [NE.sub, NE.den]
  | .acst v => by simp only [NE.sub, NE.den]
  | .acat a n b => by simp only [NE.sub, NE.den]
  | .aoff a d => by simp only [NE.sub, NE.den]
theorem NE.sub_aden : ∀ e : NE, (e.sub z x).aden (envV V) = e.aden (envV (V.put z x))
  | .avar i => by
    simp only [NE.sub, NE.aden, envV, Vs.put, Vs.cut]
    rw [getD_take_append _ _ _ _ _ hz.2.2]
    split
    · rename_i h; rw [if_pos (Nat.blt_eq.mp h)]; simp [NE.aden]
    · rename_i h
      rw [if_neg (fun h' => h (Nat.blt_eq.mpr h'))]
      rw [asA_aden]
      simp only [denA, List.getD_eq_getElem?_getD, List.getElem?_map]
      cases x.rs[i - z.q]? <;> simp [NE.aden, NE.den, envV]
  | .aupd a j v => by simp only [NE.sub, NE.aden, NE.sub_aden a, NE.sub_den j, NE.sub_den v]
  | .acst v => by simp only [NE.sub, NE.aden, NE.sub_den v]
  | .acat a n b => by simp only [NE.sub, NE.aden, NE.sub_aden a, NE.sub_den n, NE.sub_aden b]
  | .aoff a d => by simp only [NE.sub, NE.aden, NE.sub_aden a, NE.sub_den d]
  | .lit _ => by simp [NE.sub, NE.aden]
  | .var i => by
    simp only [NE.sub, NE.aden]
    split
    · simp [NE.aden]
    · rw [asN_aden]
  | .bin _ _ _ => by simp [NE.sub, NE.aden]
  | .wrap _ _ => by simp [NE.sub, NE.aden]
  | .toF _ _ => by simp [NE.sub, NE.aden]
  | .fneg _ _ => by simp [NE.sub, NE.aden]
  | .fop _ _ _ _ => by simp [NE.sub, NE.aden]
  | .sel _ _ => by simp [NE.sub, NE.aden]
end
theorem BE.sub_den : ∀ e : BE, (e.sub z x).den (envV V) = e.den (envV (V.put z x))
  | .lit _ => rfl
  | .var i => by
    simp only [BE.sub, BE.den, envV, Vs.put, Vs.cut]
    rw [getD_take_append _ _ _ _ _ hz.2.1]
    split
    · rename_i h; rw [if_pos (Nat.blt_eq.mp h)]; rfl
    · rename_i h
      rw [if_neg (fun h' => h (Nat.blt_eq.mpr h'))]
      simp only [denB, List.getD_eq_getElem?_getD, List.getElem?_map]
      cases x.bs[i - z.m]? <;> rfl
  | .icmp o a b => by simp only [BE.sub, BE.den, NE.sub_den hz x a, NE.sub_den hz x b]
  | .fcmp k o a b => by simp only [BE.sub, BE.den, NE.sub_den hz x a, NE.sub_den hz x b]
  | .not a => by simp only [BE.sub, BE.den, BE.sub_den a]
  | .and a b => by simp only [BE.sub, BE.den, BE.sub_den a, BE.sub_den b]
  | .beq a b => by simp only [BE.sub, BE.den, BE.sub_den a, BE.sub_den b]
end
def prSub (z : Sz) (x : X3) : Pr → Bool
  | .num a b => decide (a = b.sub z x)
  | .tru a b => decide (a = b.sub z x)
  | .txt i j => Nat.beq i j
  | .arr a b => decide (a = b.sub z x)
theorem prSub_ok {V : Vs} {z : Sz} (hz : z.le V.sz) {x : X3} {l : List Pr} (h : l.all (prSub z x) = true) : All (envV V) (envV (V.put z x)) l := by
  intro p hp
  have := List.all_eq_true.1 h p hp
  cases p with
  | num a b =>
    simp only [prSub, decide_eq_true_eq] at this
    simp only [Pr.holds, this]; exact NE.sub_den hz x b
  | tru a b =>
    simp only [prSub, decide_eq_true_eq] at this
    simp only [Pr.holds, this]; exact BE.sub_den hz x b
  | arr a b =>
    simp only [prSub, decide_eq_true_eq] at this
    simp only [Pr.holds, this]; exact NE.sub_aden hz x b
  | txt i j =>
    simp only [prSub] at this
    have := Nat.eq_of_beq_eq_true this
    subst this; rfl
end Go.Proofs.Ytafnplkablkepaa.Ev

/-! The symbolic machine's contracts: what a function returns, told once for all inputs. -/
namespace Go.Proofs.Ytafnplkablkepaa.Ev
set_option linter.unusedSimpArgs false
open Go Go.RowKit
set_option linter.unusedVariables false
set_option linter.unusedSectionVars false
variable {P : Program} {ρ ρ' : Env}

/-- What goes into a function and what comes out of it, by variables: first those of the inputs, behind them those of the results. The blocks are the rows that the arguments name, and the new ones. -/
structure Sig where
  f : FuncId
  inp : Sz
  out : Sz
  args : List SV
  H : Hp
  r : SV
  Hn : Hp
  deriving Inhabited
/-- The function does so, wherever its rows lie. -/
def Spec (P : Program) (S : Sig) (V : Vs) (xs : List Int) (bs : List Bool) (rs : List (Int → Int)) : Prop :=
  ∀ (σ : Sg) (w : World), HRel P (envV V) σ S.H w → Calls P S.f (denL (envV V) σ S.args).toArray w fun e w' => ∃ σ', Post P (envV (V.add xs bs rs)) σ σ' S.H (S.H ++ S.Hn) [] w w' ∧ e = .returned (S.r.den (envV (V.add xs bs rs)) σ')

mutual
/-- Two values that stand for the same, each in its environment and by its numbers of blocks. -/
def prM (bm : Nat → Nat) : SV → SV → Option (List Pr)
  | .bool a, .bool b => some (prB a b)
  | .int k a, .int l b => if k = l then some (prN a b) else none
  | .float k a, .float l b => if k = l then some (prN a b) else none
  | .complex k a c, .complex l b d => if k = l then some (prN a b ++ prN c d) else none
  | .str a, .str b => if a = b then some [] else none
  | .str a, .strn b => some (prN (.lit (enS a)) b)
  | .strn a, .strn b => some (prN a b)
  | .asl a n, .asl b m => if a = bm b then some (prN n m) else none
  | .ptr none, .ptr none => some []
  | .ptr (some a), .ptr (some b) => if a.block = bm b.block ∧ a.off = b.off ∧ a.spot = b.spot then some [] else none
  | .slice none n c, .slice none m d => if n = m ∧ c = d then some [] else none
  | .slice (some a) n c, .slice (some b) m d => if a.block = bm b.block ∧ a.off = b.off ∧ a.spot = b.spot ∧ n = m ∧ c = d then some [] else none
  | .vec a n, .vec b m => if a = bm b ∧ n = m then some [] else none
  | .eptr a i s c, .eptr b j u d => if a = bm b ∧ s = u ∧ c = d then some (prN i j) else none
  | .yld a, .yld b => if a = bm b then some [] else none
  | .nanf a, .nanf b => if a = bm b then some [] else none
  | .vsl a s l n, .vsl b t k m => if a = bm b ∧ s = t ∧ l = k ∧ n = m then some [] else none
  | .rsl a s l n, .rsl b t k m => if a = bm b ∧ s = t then some (prN l k ++ prN n m) else none
  | .func f a c, .func g b d => if f = g then (match prML bm a b, prML bm c d with
    | some x, some y => some (x ++ y)
    | _, _ => none) else none
  | .nilFunc, .nilFunc => some []
  | .nilIface, .nilIface => some []
  | .iface t a, .iface u b => if t = u then prM bm a b else none
  | .agg a, .agg b => prML bm a b
  | .tuple a, .tuple b => prML bm a b
  | _, _ => none
def prML (bm : Nat → Nat) : List SV → List SV → Option (List Pr)
  | [], [] => some []
  | a :: l, b :: r => (match prM bm a b, prML bm l r with
    | some x, some y => some (x ++ y)
    | _, _ => none)
  | _, _ => none
end
mutual
theorem prM_ok {bm : Nat → Nat} {σ τ : Sg} {n : Nat} (hb : ∀ b, b < n → τ.pl b = σ.pl (bm b)) : ∀ (a b : SV) (l : List Pr), prM bm a b = some l → b.inside n = true → All ρ ρ' l → a.den ρ σ = b.den ρ' τ
  | .bool a, b, l, h, hi, hl => by
    cases b <;> simp only [prM] at h <;> try (cases h; done)
    cases h; simp only [SV.den, prB_ok hl]
  | .int k a, b, l, h, hi, hl => by
    cases b <;> simp only [prM] at h <;> try (cases h; done)
    split at h
    · rename_i e; cases h; simp only [SV.den, e, prN_ok hl]
    · cases h
  | .float k a, b, l, h, hi, hl => by
    cases b <;> simp only [prM] at h <;> try (cases h; done)
    split at h
    · rename_i e; cases h; simp only [SV.den, e, prN_ok hl]
    · cases h
  | .complex k a c, b, l, h, hi, hl => by
    cases b <;> simp only [prM] at h <;> try (cases h; done)
    split at h
    · rename_i e; cases h; simp only [SV.den, e, prN_ok hl.left, prN_ok hl.right]
    · cases h
  | .str a, b, l, h, hi, hl => by
    cases b <;> simp only [prM] at h <;> try (cases h; done)
    · split at h
      · rename_i e; simp only [SV.den, e]
      · cases h
    · cases h
      have := prN_ok hl
      simp only [SV.den, ← this, NE.den, deS_enS]
  | .strn a, b, l, h, hi, hl => by
    cases b <;> simp only [prM] at h <;> try (cases h; done)
    cases h
    simp only [SV.den, prN_ok hl]
  | .asl a n', b, l, h, hi, hl => by
    cases b <;> simp only [prM] at h <;> try (cases h; done)
    rename_i b m
    split at h
    · rename_i e
      cases h
      have hp := hb b (of_decide_eq_true hi)
      rw [← e] at hp
      simp only [Sg.pl, Pl.mk.injEq] at hp
      simp only [SV.den, prN_ok hl, hp.1, hp.2.1, hp.2.2.1, hp.2.2.2]
    · cases h
  | .ptr none, b, l, h, hi, hl => by
    cases b with
    | ptr a => cases a with
      | none => rfl
      | some a => simp [prM] at h
    | _ => simp [prM] at h
  | .ptr (some a), b, l, h, hi, hl => by
    cases b with
    | ptr b => cases b with
      | none => simp [prM] at h
      | some b =>
        simp only [prM] at h
        split at h
        · rename_i e
          have hp := hb b.block (of_decide_eq_true hi)
          rw [← e.1] at hp
          simp only [Sg.pl, Pl.mk.injEq] at hp
          simp only [SV.den, Option.map_some, Sg.addr, hp.1, e.2.1, e.2.2]
        · cases h
    | _ => simp [prM] at h
  | .slice none n' c, b, l, h, hi, hl => by
    cases b with
    | slice a m d => cases a with
      | none =>
        simp only [prM] at h
        split at h
        · rename_i e; simp only [SV.den, e.1, e.2, Option.map_none]
        · cases h
      | some a => simp [prM] at h
    | _ => simp [prM] at h
  | .slice (some a) n' c, b, l, h, hi, hl => by
    cases b with
    | slice b m d => cases b with
      | none => simp [prM] at h
      | some b =>
        simp only [prM] at h
        split at h
        · rename_i e
          have hp := hb b.block (of_decide_eq_true hi)
          rw [← e.1] at hp
          simp only [Sg.pl, Pl.mk.injEq] at hp
          simp only [SV.den, Option.map_some, Sg.addr, hp.1, e.2.1, e.2.2.1, e.2.2.2.1, e.2.2.2.2]
        · cases h
    | _ => simp [prM] at h
  | .vec a n', b, l, h, hi, hl => by
    cases b <;> simp only [prM] at h <;> try (cases h; done)
    rename_i b m
    split at h
    · rename_i e
      have hp := hb b (of_decide_eq_true hi)
      rw [← e.1] at hp
      simp only [Sg.pl, Pl.mk.injEq] at hp
      simp only [SV.den, hp.1, hp.2.1, e.2]
    · cases h
  | .rsl a s k n', b, l, h, hi, hl => by
    cases b <;> simp only [prM] at h <;> try (cases h; done)
    rename_i b t2 k2 m
    split at h
    · rename_i e
      cases h
      have hp := hb b (of_decide_eq_true hi)
      rw [← e.1] at hp
      simp only [Sg.pl, Pl.mk.injEq] at hp
      simp only [SV.den, hp.1, hp.2.1, hp.2.2.1, hp.2.2.2, e.2, prN_ok hl.left, prN_ok hl.right]
    · cases h
  | .vsl a s k n', b, l, h, hi, hl => by
    cases b <;> simp only [prM] at h <;> try (cases h; done)
    rename_i b t2 k2 m
    split at h
    · rename_i e
      have hp := hb b (of_decide_eq_true hi)
      rw [← e.1] at hp
      simp only [Sg.pl, Pl.mk.injEq] at hp
      simp only [SV.den, hp.1, hp.2.1, e.2.1, e.2.2.1, e.2.2.2]
    · cases h
  | .nanf a, b, l, h, hi, hl => by
    cases b <;> simp only [prM] at h <;> try (cases h; done)
    rename_i b
    split at h
    · rename_i e
      have hp := hb b (of_decide_eq_true hi)
      rw [← e] at hp
      simp only [Sg.pl, Pl.mk.injEq] at hp
      simp only [SV.den, hp.2.2.1]
    · cases h
  | .yld a, b, l, h, hi, hl => by
    cases b <;> simp only [prM] at h <;> try (cases h; done)
    rename_i b
    split at h
    · rename_i e
      have hp := hb b (of_decide_eq_true hi)
      rw [← e] at hp
      simp only [Sg.pl, Pl.mk.injEq] at hp
      simp only [SV.den, hp.1]
    · cases h
  | .eptr a i s c, b, l, h, hi, hl => by
    cases b <;> simp only [prM] at h <;> try (cases h; done)
    rename_i b j u d
    split at h
    · rename_i e
      cases h
      have hp := hb b (of_decide_eq_true hi)
      rw [← e.1] at hp
      simp only [Sg.pl, Pl.mk.injEq] at hp
      simp only [SV.den, prN_ok hl, hp.1, hp.2.2.1, e.2.1, e.2.2]
    · cases h
  | .func f a c, b, l, h, hi, hl => by
    cases b <;> simp only [prM] at h <;> try (cases h; done)
    simp only [SV.inside, Bool.and_eq_true] at hi
    split at h
    · rename_i e
      split at h
      · rename_i x y hx hy
        cases h
        simp only [SV.den, e, prML_ok hb _ _ _ hx hi.1 hl.left, prML_ok hb _ _ _ hy hi.2 hl.right]
      · cases h
    · cases h
  | .nilFunc, b, l, h, hi, hl => by cases b <;> simp only [prM] at h <;> first | rfl | (cases h; done)
  | .nilIface, b, l, h, hi, hl => by cases b <;> simp only [prM] at h <;> first | rfl | (cases h; done)
  | .iface t a, b, l, h, hi, hl => by
    cases b <;> simp only [prM] at h <;> try (cases h; done)
    split at h
    · rename_i e; simp only [SV.inside] at hi; simp only [SV.den, e, prM_ok hb _ _ _ h hi hl]
    · cases h
  | .agg a, b, l, h, hi, hl => by
    cases b <;> simp only [prM] at h <;> try (cases h; done)
    simp only [SV.inside] at hi
    simp only [SV.den, prML_ok hb _ _ _ h hi hl]
  | .tuple a, b, l, h, hi, hl => by
    cases b <;> simp only [prM] at h <;> try (cases h; done)
    simp only [SV.inside] at hi
    simp only [SV.den, prML_ok hb _ _ _ h hi hl]
  | .strv _, b, l, h, hi, hl => by cases b <;> simp [prM] at h
  | .any _, b, l, h, hi, hl => by cases b <;> simp [prM] at h
theorem prML_ok {bm : Nat → Nat} {σ τ : Sg} {n : Nat} (hb : ∀ b, b < n → τ.pl b = σ.pl (bm b)) : ∀ (a b : List SV) (l : List Pr), prML bm a b = some l → insideL n b = true → All ρ ρ' l → denL ρ σ a = denL ρ' τ b
  | [], [], l, h, hi, hl => rfl
  | a :: r, b :: s, l, h, hi, hl => by
    simp only [prML] at h
    simp only [insideL, Bool.and_eq_true] at hi
    split at h
    · rename_i x y hx hy
      cases h
      simp only [denL, prM_ok hb _ _ _ hx hi.1 hl.left, prML_ok hb _ _ _ hy hi.2 hl.right]
    · cases h
  | [], _ :: _, l, h, hi, hl => by simp [prML] at h
  | _ :: _, [], l, h, hi, hl => by simp [prML] at h
end

/-- A row as a shared one: it may be one's own. -/
def prRow (x y : Blk) : Option (List Pr) := if y.ro = true ∧ x.cells.isEmpty = true ∧ y.cells.isEmpty = true ∧ x.abs.isSome = true then prA x.abs y.abs else none
theorem prRow_ok {σ τ : Sg} {x y : Blk} {l : List Pr} (h : prRow x y = some l) (hl : All ρ ρ' l) {p : Pl} {w : World} (hx : BlkAt P ρ σ x p w) : BlkAt P ρ' τ y p w ∧ y.shd = true ∧ y.cells = [] := by
  unfold prRow at h
  split at h
  · rename_i hc
    obtain ⟨h1, h2, h3, h4⟩ := hc
    cases hA : x.abs with
    | none => rw [hA] at h4; cases h4
    | some A =>
      rw [hA] at h
      cases hB : y.abs with
      | none => rw [hB] at h; simp [prA] at h
      | some B =>
        rw [hB] at h
        simp only [prA] at h
        split at h
        · rename_i es
          obtain ⟨r, hr, rfl⟩ := Option.map_eq_some_iff.1 h
          have hc := prC_ok hr hl.right
          have hn := prN_ok hl.left
          obtain ⟨g1, g2, g3, g4, g5⟩ := hx.row A hA
          refine ⟨BlkAt.ofRows (Blk.row_rec hB) (by rw [hB]; rfl) fun C hC => ?_, by simp [Blk.shd, hB, h1], by simpa using h3⟩
          rw [hB] at hC
          cases hC
          refine ⟨by rw [← hn]; exact g1, by rw [← es]; exact fitC_len2 _ _ _ g2 hc.1.symm, (fun a ha => by rw [← hn]; exact g3 a ha), (fun hg => ?_), (fun hg => by rw [← hn]; exact g5 hg)⟩
          obtain ⟨c, t, fr, k1, k2, k3⟩ := g4 hg
          refine ⟨c, t, fr, k1, fun j i hj hi => ?_, fun hro => by rw [h1] at hro; cases hro⟩
          rw [← es, ← hc.2]; exact k2 j i (by rw [hn]; exact hj) (by rw [es]; exact hi)
        · cases h
  · cases h
/-- The rows of the inputs, by the caller's blocks. -/
def prIn (H : Hp) : List Nat → Hp → Option (List Pr)
  | [], [] => some []
  | b :: M, some y :: K => (match getB H b with
    | some x => (match prRow x y, prIn H M K with
      | some p, some q => some (p ++ q)
      | _, _ => none)
    | none => none)
  | _, _ => none
theorem prIn_ok {H : Hp} : ∀ {M : List Nat} {K : Hp} {l : List Pr}, prIn H M K = some l → All ρ ρ' l → M.length = K.length ∧ ∀ (i : Nat) (y : Blk), K[i]? = some (some y) → ∃ b x p, M[i]? = some b ∧ H[b]? = some (some x) ∧ prRow x y = some p ∧ All ρ ρ' p
  | [], [], l, h, hl => ⟨rfl, fun i y hy => by simp at hy⟩
  | b :: M, some z :: K, l, h, hl => by
    simp only [prIn] at h
    split at h
    · rename_i x hx
      split at h
      · rename_i p q hp hq
        cases h
        obtain ⟨h1, h2⟩ := prIn_ok hq hl.right
        refine ⟨by simp [h1], fun i y hy => ?_⟩
        cases i with
        | zero => simp at hy; subst hy; exact ⟨b, x, p, rfl, getB_some hx, hp, hl.left⟩
        | succ i => simpa using h2 i y (by simpa using hy)
      · cases h
    · cases h
  | [], some _ :: _, l, h, hl => by simp [prIn] at h
  | [], none :: _, l, h, hl => by simp [prIn] at h
  | _ :: _, [], l, h, hl => by simp [prIn] at h
  | _ :: _, none :: _, l, h, hl => by simp [prIn] at h
/-- The new rows. -/
def prNew : Hp → Hp → Option (List Pr)
  | [], [] => some []
  | some x :: H, some y :: K => if x.cells.isEmpty = true ∧ y.cells.isEmpty = true then (match prB1 x y, prNew H K with
    | some p, some q => some (p ++ q)
    | _, _ => none) else none
  | _, _ => none
theorem prNew_ok : ∀ {H K : Hp} {l : List Pr}, prNew H K = some l → All ρ ρ' l → H.length = K.length ∧ ∀ (i : Nat) (x : Blk), H[i]? = some (some x) → ∃ y, K[i]? = some (some y) ∧ x.cells = [] ∧ ∀ σ, SameBlk ρ ρ' σ x y
  | [], [], l, h, hl => ⟨rfl, fun i y hy => by simp at hy⟩
  | some z :: H, some y :: K, l, h, hl => by
    simp only [prNew] at h
    split at h
    · rename_i hc
      split at h
      · rename_i p q hp hq
        cases h
        obtain ⟨h1, h2⟩ := prNew_ok hq hl.right
        refine ⟨by simp [h1], fun i x hx => ?_⟩
        cases i with
        | zero => simp at hx; subst hx; exact ⟨y, rfl, by simpa using hc.1, fun σ => prB1_ok σ hp hl.left⟩
        | succ i => simpa using h2 i x (by simpa using hx)
      · cases h
    · cases h
  | [], some _ :: _, l, h, hl => by simp [prNew] at h
  | [], none :: _, l, h, hl => by simp [prNew] at h
  | some _ :: _, [], l, h, hl => by simp [prNew] at h
  | none :: _, _, l, h, hl => by simp [prNew] at h
  | some _ :: _, none :: _, l, h, hl => by simp [prNew] at h
theorem SameBlk.nocells {σ τ : Sg} {x y : Blk} (h : SameBlk ρ ρ' σ x y) (hx : x.cells = []) : SameBlk ρ' ρ τ y x := by
  have hy : y.cells = [] := List.eq_nil_of_length_eq_zero (by have := h.len; rw [hx] at this; simpa using this.symm)
  refine ⟨h.elem.symm, h.opn.symm, h.ro.symm, h.len.symm, (fun _ => by rw [hx, hy]; rfl), (fun _ => by rw [hx, hy]; exact ⟨id, fun t ht => ⟨ht, rfl⟩⟩), fun he => ?_, fun B hB => ?_⟩
  · cases hY : y.abs with
    | none => rfl
    | some B => obtain ⟨A, hA, _⟩ := h.some_ B hY; rw [he] at hA; cases hA
  · cases hY : y.abs with
    | none => rw [h.none_ hY] at hB; cases hB
    | some C =>
      obtain ⟨A, hA, e1, e2, e3, e4⟩ := h.some_ C hY
      rw [hB] at hA
      cases hA
      exact ⟨C, rfl, e1.symm, e2.symm, e3.symm, fun j s => (e4 j s).symm⟩

/-- By which number a block of the contract goes for the caller. -/
def bmOf (M : List Nat) (base i : Nat) : Nat := match M[i]? with
  | some b => b
  | none => base + (i - M.length)
/-- The contract, told by the caller's terms. -/
def callChk (S : Sig) (x x' : X3) (c : CallE) : Bool :=
  Nat.beq c.f S.f && (decide (x.sz = S.inp) && (insideL S.H.length S.args && (S.r.inside (S.H.length + S.Hn.length) && (Nat.beq c.M.length S.H.length && (c.M.all (fun b => Nat.blt b c.HM.length) &&
  ((match prML (bmOf c.M c.HM.length) c.args S.args with
    | some l => l.all (prSub ⟨0, 0, 0⟩ x)
    | none => false) && ((match prIn c.HM c.M S.H with
    | some l => l.all (prSub ⟨0, 0, 0⟩ x)
    | none => false) && ((match prM (bmOf c.M c.HM.length) c.r S.r with
    | some l => l.all (prSub ⟨0, 0, 0⟩ x')
    | none => false) && (match prNew c.Hn S.Hn with
    | some l => l.all (prSub ⟨0, 0, 0⟩ x')
    | none => false)))))))))
theorem call_of_spec {S : Sig} {x x' : X3} {c : CallE} (h : callChk S x x' c = true) {V : Vs} {xs : List Int} {bs : List Bool} {rs : List (Int → Int)}
    (hx' : ⟨denN (envV V) x'.ns, denB (envV V) x'.bs, denA (envV V) x'.rs⟩ = (Vs.mk (denN (envV V) x.ns) (denB (envV V) x.bs) (denA (envV V) x.rs)).add xs bs rs)
    (hS : Spec P S ⟨denN (envV V) x.ns, denB (envV V) x.bs, denA (envV V) x.rs⟩ xs bs rs) : c.Ok P (envV V) := by
  simp only [callChk, Bool.and_eq_true] at h
  obtain ⟨h1, h2, h3, h4, h5, h6, h7, h8, h9, h10⟩ := h
  have z0 : (⟨0, 0, 0⟩ : Sz).le V.sz := ⟨Nat.zero_le _, Nat.zero_le _, Nat.zero_le _⟩
  have e0 : V.put ⟨0, 0, 0⟩ x = ⟨denN (envV V) x.ns, denB (envV V) x.bs, denA (envV V) x.rs⟩ := by simp [Vs.put, Vs.cut]
  have e1 : V.put ⟨0, 0, 0⟩ x' = (Vs.mk (denN (envV V) x.ns) (denB (envV V) x.bs) (denA (envV V) x.rs)).add xs bs rs := by rw [← hx']; simp [Vs.put, Vs.cut]
  split at h7
  case h_2 => cases h7
  rename_i l7 g7
  split at h8
  case h_2 => cases h8
  rename_i l8 g8
  split at h9
  case h_2 => cases h9
  rename_i l9 g9
  split at h10
  case h_2 => cases h10
  rename_i l10 g10
  have a7 := prSub_ok z0 h7; rw [e0] at a7
  have a8 := prSub_ok z0 h8; rw [e0] at a8
  have a9 := prSub_ok z0 h9; rw [e1] at a9
  have a10 := prSub_ok z0 h10; rw [e1] at a10
  have hf := Nat.eq_of_beq_eq_true h1
  have hM := Nat.eq_of_beq_eq_true h5
  obtain ⟨i1, i2⟩ := prIn_ok g8 a8
  obtain ⟨n1, n2⟩ := prNew_ok g10 a10
  intro σ w hr
  let bm := bmOf c.M c.HM.length
  let τ : Sg := ⟨fun b => σ.blk (bm b), fun b => σ.cap (bm b), fun b => σ.off (bm b), fun b => σ.gh (bm b)⟩
  have hτ : ∀ b, τ.pl b = σ.pl (bm b) := fun b => rfl
  have bmlt : ∀ i, i < S.H.length → bm i < c.HM.length := by
    intro i hi
    have hlt : i < c.M.length := by omega
    have : bm i = c.M[i] := by show bmOf _ _ _ = _; unfold bmOf; rw [List.getElem?_eq_getElem hlt]
    rw [this]
    exact Nat.blt_eq.mp (List.all_eq_true.1 h6 _ (List.getElem_mem hlt))
  have bmnew : ∀ i, S.H.length ≤ i → bm i = c.HM.length + (i - S.H.length) := by
    intro i hi
    show bmOf _ _ _ = _
    unfold bmOf; rw [List.getElem?_eq_none (by omega), hM]
  have hrel : HRel P (envV ⟨denN (envV V) x.ns, denB (envV V) x.bs, denA (envV V) x.rs⟩) τ S.H w := by
    have key : ∀ (i : Nat) (y : Blk), S.H[i]? = some (some y) → BlkAt P (envV ⟨denN (envV V) x.ns, denB (envV V) x.bs, denA (envV V) x.rs⟩) τ y (τ.pl i) w ∧ y.shd = true ∧ y.cells = [] := by
      intro i y hy
      obtain ⟨b, z, p, hb, hz, hp, hA⟩ := i2 i y hy
      have eb : bm i = b := by show bmOf _ _ _ = _; unfold bmOf; rw [hb]
      have := prRow_ok (P := P) (σ := σ) (τ := τ) hp hA (hr.blk b z hz).2
      rw [hτ, eb]; exact this
    refine ⟨fun i y hy => ⟨by rw [(key i y hy).2.2]; rfl, (key i y hy).1⟩, fun i i' y y' hy hy' hs => ?_⟩
    rcases hs with hs | hs
    · rw [(key i y hy).2.1] at hs; cases hs
    · rw [(key i' y' hy').2.1] at hs; cases hs
  have hargs : denL (envV V) σ c.args = denL (envV ⟨denN (envV V) x.ns, denB (envV V) x.bs, denA (envV V) x.rs⟩) τ S.args := prML_ok (n := S.H.length) (fun b _ => hτ b) _ _ _ g7 h3 a7
  rw [hf, hargs]
  refine Calls.mono (hS τ w hrel) fun e w' ⟨τ', hp, he⟩ => ?_
  let σ' : Sg := ⟨fun b => if b < c.HM.length then σ.blk b else τ'.blk (S.H.length + (b - c.HM.length)), fun b => if b < c.HM.length then σ.cap b else τ'.cap (S.H.length + (b - c.HM.length)), fun b => if b < c.HM.length then σ.off b else τ'.off (S.H.length + (b - c.HM.length)), fun b => if b < c.HM.length then σ.gh b else τ'.gh (S.H.length + (b - c.HM.length))⟩
  have hag : σ.agree c.HM.length σ' := fun b hb => ⟨if_pos hb, if_pos hb, if_pos hb, if_pos hb⟩
  have hnw : ∀ b, c.HM.length ≤ b → σ'.pl b = τ'.pl (S.H.length + (b - c.HM.length)) := by
    intro b hb
    have : ¬ b < c.HM.length := by omega
    simp [Sg.pl, σ', this]
  have hfr : ∀ k, k < w.heap.size → w'.heap[k]? = w.heap[k]? := fun k hk => hp.frame k hk fun b hb => by cases hb
  have hpl : ∀ b, b < S.H.length + S.Hn.length → τ'.pl b = σ'.pl (bm b) := by
    intro b hb
    rcases Nat.lt_or_ge b S.H.length with hlt | hge
    · rw [hp.ext.pl hlt, hτ, hag.pl (bmlt b hlt)]
    · rw [bmnew b hge, hnw _ (Nat.le_add_right _ _)]
      congr 1; omega
  have blkOf : ∀ {b : Nat}, c.HM.length ≤ b → σ'.blk b = τ'.blk (S.H.length + (b - c.HM.length)) ∧ σ'.gh b = τ'.gh (S.H.length + (b - c.HM.length)) := by
    intro b hb
    have := hnw b hb
    simp only [Sg.pl, Pl.mk.injEq] at this
    exact ⟨this.1, this.2.2.2⟩
  have newAt : ∀ (b : Nat) (z : Blk), c.HM.length ≤ b → (c.HM ++ c.Hn)[b]? = some (some z) → ∃ y, (S.H ++ S.Hn)[S.H.length + (b - c.HM.length)]? = some (some y) ∧ z.cells = [] ∧ ∀ σ, SameBlk (envV V) (envV ((Vs.mk (denN (envV V) x.ns) (denB (envV V) x.bs) (denA (envV V) x.rs)).add xs bs rs)) σ z y := by
    intro b z hb hz
    rw [List.getElem?_append_right hb] at hz
    obtain ⟨y, hy, hc, hs⟩ := n2 _ z hz
    refine ⟨y, ?_, hc, hs⟩
    rw [List.getElem?_append_right (by omega)]
    rw [show S.H.length + (b - c.HM.length) - S.H.length = b - c.HM.length by omega]; exact hy
  have fresh : ∀ b, c.HM.length ≤ b → b < (c.HM ++ c.Hn).length → σ'.gh b = none → w.heap.size ≤ σ'.blk b := by
    intro b hb hlt hg
    rw [(blkOf hb).1]
    rw [(blkOf hb).2] at hg
    simp only [List.length_append] at hlt
    rcases hp.new (S.H.length + (b - c.HM.length)) (by omega) (by simp only [List.length_append]; omega) hg with h | ⟨d, hd, _⟩
    · exact h
    · cases hd
  have lenlt : ∀ {b : Nat} {z : Blk}, (c.HM ++ c.Hn)[b]? = some (some z) → b < (c.HM ++ c.Hn).length := fun hb => (List.getElem?_eq_some_iff.1 hb).1
  have old : ∀ {b : Nat} {z : Blk}, b < c.HM.length → (c.HM ++ c.Hn)[b]? = some (some z) → c.HM[b]? = some (some z) := fun hlt hb => by rwa [List.getElem?_append_left hlt] at hb
  refine ⟨σ', ⟨hag, by simp, ⟨fun b z hb => ?_, fun b b' z z' hb hb' hs hg hg' he => ?_⟩, fun b q1 q2 hg => .inl (fresh b q1 q2 hg), hp.os, hp.tape, hp.out, hp.size, hp.kd, fun k hk _ => hfr k hk, fun b hb _ => by rw [List.getElem?_append_left hb]⟩, ?_⟩
  · rcases Nat.lt_or_ge b c.HM.length with hlt | hge
    · have hb0 := old hlt hb
      obtain ⟨hi, hat⟩ := hr.blk b z hb0
      refine ⟨insideL_mono (by simp) _ hi, ?_⟩
      rw [hag.pl hlt]
      exact hat.to (denL_agree hag _ hi) fun hg => hfr _ (hr.lt hb0 hg)
    · obtain ⟨y, hy, hc, hsb⟩ := newAt b z hge hb
      refine ⟨by rw [hc]; rfl, ?_⟩
      rw [hnw b hge]
      have hyl : y.cells = [] := List.eq_nil_of_length_eq_zero (by have := (hsb σ').len; rw [hc] at this; simpa using this.symm)
      exact ((hsb σ').nocells (τ := σ') hc).at_ ((hp.rel.blk _ y hy).2.to (σ' := σ') (by rw [hyl]; rfl) fun _ => rfl)
  · rcases Nat.lt_or_ge b c.HM.length with hlt | hge <;> rcases Nat.lt_or_ge b' c.HM.length with hlt' | hge'
    · rw [hag.gh hlt] at hg; rw [hag.gh hlt'] at hg'
      rw [(hag b hlt).1, (hag b' hlt').1] at he
      exact hr.inj b b' z z' (old hlt hb) (old hlt' hb') hs hg hg' he
    · rw [hag.gh hlt] at hg
      rw [(hag b hlt).1] at he
      have := hr.lt (old hlt hb) hg
      have := fresh b' hge' (lenlt hb') hg'
      omega
    · rw [hag.gh hlt'] at hg'
      rw [(hag b' hlt').1] at he
      have := hr.lt (old hlt' hb') hg'
      have := fresh b hge (lenlt hb) hg
      omega
    · obtain ⟨y, hy, hc, hsb⟩ := newAt b z hge hb
      obtain ⟨y', hy', hc', hsb'⟩ := newAt b' z' hge' hb'
      rw [(blkOf hge).2] at hg; rw [(blkOf hge').2] at hg'
      rw [(blkOf hge).1, (blkOf hge').1] at he
      have := hp.rel.inj _ _ y y' hy hy' (by rw [← (hsb σ').shd, ← (hsb' σ').shd]; exact hs) hg hg' he
      omega
  · rw [he]
    congr 1
    exact (prM_ok (n := S.H.length + S.Hn.length) hpl _ _ _ g9 h4 a9).symm
end Go.Proofs.Ytafnplkablkepaa.Ev

/-! The symbolic machine's ends: what a walk leaves, told by other terms and other numbers of blocks. -/
namespace Go.Proofs.Ytafnplkablkepaa.Ev
set_option linter.unusedSimpArgs false
open Go Go.RowKit
set_option linter.unusedVariables false
set_option linter.unusedSectionVars false
variable {P : Program} {ρ ρ' : Env}
variable {ds : List Deferred}

/-- The same block, over another environment and other numbers of blocks. -/
structure SameBlkM (ρ ρ' : Env) (σ τ : Sg) (x y : Blk) : Prop where
  elem : x.elem = y.elem
  opn : x.opn = y.opn
  ro : x.ro = y.ro
  len : x.cells.length = y.cells.length
  den : y.isRec = false → denL ρ σ x.cells = denL ρ' τ y.cells
  rcd : y.isRec = true → RecEq ρ ρ' σ τ x.cells y.cells
  none_ : y.abs = none → x.abs = none
  some_ : ∀ B, y.abs = some B → ∃ A, x.abs = some A ∧ A.sh = B.sh ∧ A.n.den ρ = B.n.den ρ' ∧ A.cols.length = B.cols.length ∧ ∀ j s, cellsV ρ j s A.cols = cellsV ρ' j s B.cols
theorem SameBlkM.shd {σ τ : Sg} {x y : Blk} (h : SameBlkM ρ ρ' σ τ x y) : x.shd = y.shd := by
  unfold Blk.shd
  rw [h.ro]
  cases hy : y.abs with
  | none => rw [h.none_ hy]
  | some B => obtain ⟨A, hA, _⟩ := h.some_ B hy; rw [hA]; rfl
theorem SameBlkM.isRec {σ τ : Sg} {x y : Blk} (h : SameBlkM ρ ρ' σ τ x y) : x.isRec = y.isRec := by
  unfold Blk.isRec
  rw [h.ro, h.opn]
  cases hy : y.abs with
  | none => rw [h.none_ hy]
  | some B => obtain ⟨A, hA, _⟩ := h.some_ B hy; rw [hA]; rfl
theorem SameBlkM.at_ {σ τ : Sg} {x y : Blk} (h : SameBlkM ρ ρ' σ τ x y) {p : Pl} {w : World} (hx : BlkAt P ρ σ x p w) : BlkAt P ρ' τ y p w := by
  refine ⟨fun hy hn => ?_, fun B hB => ?_, fun hrc => (hx.rcd (by rw [h.isRec]; exact hrc)).conv h.elem h.len (h.rcd hrc)⟩
  · obtain ⟨g1, g2, rest, fr, g3, g4, g5, g6⟩ := hx.con (h.none_ hy) (by rw [h.isRec]; exact hn)
    exact ⟨g1, g2, rest, fr, by rw [← h.den hn, ← h.elem]; exact g3, by rw [← h.opn, ← h.ro]; exact g4, by rw [← h.opn, ← h.len, ← h.elem]; exact g5, by rw [← h.ro]; exact g6⟩
  · obtain ⟨A, hA, e1, e2, e3, e4⟩ := h.some_ B hB
    obtain ⟨g1, g2, g3, g4, g5⟩ := hx.row A hA
    refine ⟨by rw [← e2]; exact g1, by rw [← e1]; exact fitC_len2 _ _ _ g2 e3.symm, (fun a ha => by rw [← e2]; exact g3 a ha), (fun hg => ?_), (fun hg => by rw [← e2]; exact g5 hg)⟩
    obtain ⟨c, t, fr, k1, k2, k3⟩ := g4 hg
    refine ⟨c, t, fr, k1, fun j i hj hi => ?_, fun hro => ?_⟩
    · rw [← e1, ← e4]; exact k2 j i (by rw [e2]; exact hj) (by rw [e1]; exact hi)
    · obtain ⟨l1, l2, l3, l4, l5, l6⟩ := k3 (by rw [h.ro]; exact hro)
      exact ⟨by rw [← h.elem]; exact l1, l2, l3, by rw [← h.elem]; exact l4, by rw [← h.elem, ← e1]; exact l5, by rw [← e2]; exact l6⟩
/-- Slots: what is not told is left. -/
def prTM (bm : Nat → Nat) : List SV → List SV → Option (List Pr)
  | [], [] => some []
  | a :: l, b :: r => if b.isAny then prTM bm l r else (match prM bm a b, prTM bm l r with
    | some x, some y => some (x ++ y)
    | _, _ => none)
  | _, _ => none
theorem prTM_ok {bm : Nat → Nat} {σ τ : Sg} {n : Nat} (hb : ∀ b, b < n → τ.pl b = σ.pl (bm b)) : ∀ {T U : List SV} {l : List Pr}, prTM bm T U = some l → insideL n U = true → All ρ ρ' l → U.length = T.length ∧ ∀ t, (U.getD t uS).isAny = false → (T.getD t uS).isAny = false ∧ (T.getD t uS).den ρ σ = (U.getD t uS).den ρ' τ
  | [], [], l, h, hi, hl => ⟨rfl, fun t _ => ⟨rfl, rfl⟩⟩
  | a :: T, b :: U, l, h, hi, hl => by
    simp only [prTM] at h
    simp only [insideL, Bool.and_eq_true] at hi
    split at h
    · rename_i hb'
      obtain ⟨e, f⟩ := prTM_ok hb h hi.2 hl
      refine ⟨by simp [e], fun t ht => ?_⟩
      cases t with
      | zero => simp at ht; rw [hb'] at ht; cases ht
      | succ t => exact f t ht
    · split at h
      · rename_i x y hx hy
        cases h
        obtain ⟨e, f⟩ := prTM_ok hb hy hi.2 hl.right
        refine ⟨by simp [e], fun t ht => ?_⟩
        cases t with
        | zero =>
          refine ⟨?_, prM_ok hb _ _ _ hx hi.1 hl.left⟩
          show a.isAny = false
          cases a <;> first | rfl | (cases b <;> simp [prM] at hx)
        | succ t => exact f t ht
      · cases h
  | [], _ :: _, l, h, hi, hl => by simp [prTM] at h
  | _ :: _, [], l, h, hi, hl => by simp [prTM] at h
def prBM (bm : Nat → Nat) (x y : Blk) : Option (List Pr) := if x.elem = y.elem ∧ x.opn = y.opn ∧ x.ro = y.ro ∧ x.cells.length = y.cells.length then (match (if y.isRec then (if (y.cells.getD 0 uS).isAny then none else prTM bm x.cells y.cells) else prML bm x.cells y.cells), prA x.abs y.abs with
  | some p, some q => some (p ++ q)
  | _, _ => none) else none
theorem prBM_ok {bm : Nat → Nat} {σ τ : Sg} {n : Nat} (hb : ∀ b, b < n → τ.pl b = σ.pl (bm b)) {x y : Blk} {l : List Pr} (h : prBM bm x y = some l) (hi : insideL n y.cells = true) (hl : All ρ ρ' l) : SameBlkM ρ ρ' σ τ x y := by
  unfold prBM at h
  split at h
  · rename_i e
    split at h
    · rename_i p q hp hq
      cases h
      refine ⟨e.1, e.2.1, e.2.2.1, e.2.2.2, (fun hn => by rw [hn] at hp; exact prML_ok hb _ _ _ hp hi hl.left), (fun hn => ?_), fun hy => ?_, fun B hB => ?_⟩
      · rw [hn] at hp
        simp only [if_true] at hp
        split at hp
        · cases hp
        · rename_i h0
          exact ⟨fun _ => by simpa using h0, (prTM_ok hb hp hi hl.left).2⟩
      · rw [hy] at hq
        cases hx : x.abs with
        | none => rfl
        | some A => rw [hx] at hq; simp [prA] at hq
      · rw [hB] at hq
        cases hx : x.abs with
        | none => rw [hx] at hq; simp [prA] at hq
        | some A =>
          rw [hx] at hq
          simp only [prA] at hq
          split at hq
          · rename_i es
            obtain ⟨r, hr, rfl⟩ := Option.map_eq_some_iff.1 hq
            have := prC_ok hr hl.right.right
            exact ⟨A, rfl, es, prN_ok hl.right.left, this.1, this.2⟩
          · cases hq
    · cases h
  · cases h
/-- All blocks that are told, each as the one of the walk that it stands for. -/
def prHM (bm : Nat → Nat) (H1 : Hp) : Nat → Hp → Option (List Pr)
  | _, [] => some []
  | k, none :: r => prHM bm H1 (k + 1) r
  | k, some y :: r => (match getB H1 (bm k) with
    | some x => (match prBM bm x y, prHM bm H1 (k + 1) r with
      | some p, some q => some (p ++ q)
      | _, _ => none)
    | none => none)
theorem prHM_ok {bm : Nat → Nat} {H1 : Hp} : ∀ {K : Hp} {k : Nat} {l : List Pr}, prHM bm H1 k K = some l → All ρ ρ' l → ∀ (b : Nat) (y : Blk), K[b]? = some (some y) → ∃ x p, H1[bm (k + b)]? = some (some x) ∧ prBM bm x y = some p ∧ All ρ ρ' p
  | [], k, l, h, hl, b, y, hb => by simp at hb
  | none :: r, k, l, h, hl, b, y, hb => by
    simp only [prHM] at h
    cases b with
    | zero => simp at hb
    | succ b =>
      have := prHM_ok h hl b y (by simpa using hb)
      rwa [show k + 1 + b = k + (b + 1) by omega] at this
  | some z :: r, k, l, h, hl, b, y, hb => by
    simp only [prHM] at h
    split at h
    · rename_i x hx
      split at h
      · rename_i p q hp hq
        cases h
        cases b with
        | zero => simp at hb; subst hb; exact ⟨x, p, getB_some hx, hp, hl.left⟩
        | succ b =>
          have := prHM_ok hq hl.right b y (by simpa using hb)
          rwa [show k + 1 + b = k + (b + 1) by omega] at this
      · cases h
    · cases h

def nodupN : List Nat → Bool
  | [] => true
  | a :: l => !l.contains a && nodupN l
theorem nodupN_get : ∀ {l : List Nat}, nodupN l = true → ∀ i j : Nat, i < j → j < l.length → l.getD i 0 ≠ l.getD j 0
  | [], _, i, j, _, hj => by simp at hj
  | a :: l, h, i, j, hij, hj => by
    simp only [nodupN, Bool.and_eq_true, Bool.not_eq_true'] at h
    cases j with
    | zero => omega
    | succ j =>
      cases i with
      | zero =>
        simp only [List.getD_cons_zero, List.getD_cons_succ]
        intro e
        have hm : l.getD j 0 ∈ l := by
          simp at hj
          rw [List.getD_eq_getElem?_getD, List.getElem?_eq_getElem hj]
          exact List.getElem_mem hj
        rw [← e] at hm
        have := h.1
        rw [List.contains_eq_mem] at this
        simp [hm] at this
      | succ i =>
        simp only [List.getD_cons_succ]
        exact nodupN_get h.2 i j (by omega) (by simpa using hj)
def renB (n0 : Nat) (ren : List Nat) (b : Nat) : Nat := if Nat.blt b n0 then b else ren.getD (b - n0) 0
theorem renB_old {n0 b : Nat} (ren : List Nat) (h : b < n0) : renB n0 ren b = b := by unfold renB; rw [if_pos (Nat.blt_eq.mpr h)]
theorem renB_new {n0 b : Nat} (ren : List Nat) (h : n0 ≤ b) : renB n0 ren b = ren.getD (b - n0) 0 := by
  unfold renB; rw [if_neg (fun h' => by have := Nat.blt_eq.mp h'; omega)]
/-- That the slots T1 and the blocks H1 may be told as Tt and Ht. -/
def convChk (z : Sz) (x : X3) (H0 : Hp) (W : List Nat) (T1 : List SV) (H1 : Hp) (W1 : List Nat) (Tt : List SV) (Ht : Hp) (ren : List Nat) : Bool :=
  Nat.ble H0.length Ht.length && (Nat.ble H0.length H1.length && (Nat.beq ren.length (Ht.length - H0.length) && (ren.all (fun b => Nat.ble H0.length b && Nat.blt b H1.length) && (nodupN ren &&
  (W1.all (fun b => Nat.ble H0.length b || W.contains b) && (fitsH Ht.length Tt Ht && ((List.range H0.length).all (fun b => W.contains b || sameO Ht[b]? H0[b]?) &&
  (match prTM (renB H0.length ren) T1 Tt, prHM (renB H0.length ren) H1 0 Ht with
    | some l1, some l2 => (l1 ++ l2).all (prSub z x)
    | _, _ => false))))))))
/-- So it is: the places of the told blocks are those of the walk's. -/
theorem conv_ok {V : Vs} {z : Sz} (hz : z.le V.sz) {x : X3} {H0 : Hp} {W : List Nat} {T1 : List SV} {H1 : Hp} {W1 : List Nat} {Tt : List SV} {Ht : Hp} {ren : List Nat} (h : convChk z x H0 W T1 H1 W1 Tt Ht ren = true)
    {ρ0 : Env} {σ0 σ1 : Sg} {w0 w1 : World} {a : Act} (hp : Post P (envV V) σ0 σ1 H0 H1 (W ++ W1) w0 w1) (hT : TRel ds (envV V) σ1 H1.length T1 a) :
    ∃ σ2, Post P (envV (V.put z x)) σ0 σ2 H0 Ht W w0 w1 ∧ TRel ds (envV (V.put z x)) σ2 Ht.length Tt a := by
  simp only [convChk, Bool.and_eq_true] at h
  obtain ⟨h1, h1', h2, h3, h4, h5, h6, h7, h8⟩ := h
  have h1 := Nat.le_of_ble_eq_true h1
  have h1' := Nat.le_of_ble_eq_true h1'
  have h2 := Nat.eq_of_beq_eq_true h2
  split at h8
  case h_2 => cases h8
  rename_i l1 l2 q1 q2
  have hA := prSub_ok hz h8
  obtain ⟨f1, f2⟩ := fitsH_ok h6
  have h3' : ∀ b, H0.length ≤ b → b < Ht.length → H0.length ≤ renB H0.length ren b ∧ renB H0.length ren b < H1.length := by
    intro b hb hlt
    rw [renB_new ren hb]
    have hl : b - H0.length < ren.length := by omega
    have hm : ren.getD (b - H0.length) 0 ∈ ren := by
      rw [List.getD_eq_getElem?_getD, List.getElem?_eq_getElem hl]; exact List.getElem_mem hl
    have := List.all_eq_true.1 h3 _ hm
    simp only [Bool.and_eq_true] at this
    exact ⟨Nat.le_of_ble_eq_true this.1, Nat.blt_eq.mp this.2⟩
  have hinj : ∀ b b', b < Ht.length → b' < Ht.length → renB H0.length ren b = renB H0.length ren b' → b = b' := by
    intro b b' hb hb' he
    rcases Nat.lt_or_ge b H0.length with g | g <;> rcases Nat.lt_or_ge b' H0.length with g' | g'
    · rwa [renB_old ren g, renB_old ren g'] at he
    · have := (h3' b' g' hb').1
      rw [renB_old ren g] at he; omega
    · have := (h3' b g hb).1
      rw [renB_old ren g'] at he; omega
    · rw [renB_new ren g, renB_new ren g'] at he
      rcases Nat.lt_trichotomy b b' with hlt | heq | hgt
      · exact absurd he (nodupN_get h4 _ _ (by omega) (by omega))
      · exact heq
      · exact absurd he.symm (nodupN_get h4 _ _ (by omega) (by omega))
  have hWW : ∀ b ∈ W ++ W1, b < H0.length → b ∈ W := by
    intro b hb hlt
    rcases List.mem_append.1 hb with hb | hb
    · exact hb
    · have := List.all_eq_true.1 h5 b hb
      simp only [Bool.or_eq_true] at this
      rcases this with h | h
      · have := Nat.le_of_ble_eq_true h; omega
      · simpa using h
  let σ2 : Sg := ⟨fun b => σ1.blk (renB H0.length ren b), fun b => σ1.cap (renB H0.length ren b), fun b => σ1.off (renB H0.length ren b), fun b => σ1.gh (renB H0.length ren b)⟩
  have hpl : ∀ b, b < Ht.length → σ2.pl b = σ1.pl (renB H0.length ren b) := fun b _ => rfl
  have hold : ∀ b, b < H0.length → σ2.pl b = σ1.pl b := fun b hb => by rw [hpl b (by omega), renB_old ren hb]
  have hsb : ∀ (b : Nat) (y : Blk), Ht[b]? = some (some y) → ∃ x', H1[renB H0.length ren b]? = some (some x') ∧ SameBlkM (envV V) (envV (V.put z x)) σ1 σ2 x' y := by
    intro b y hb
    obtain ⟨x', p, hx', hp', hA'⟩ := prHM_ok q2 hA.right b y hb
    rw [Nat.zero_add] at hx'
    exact ⟨x', hx', prBM_ok hpl hp' (f2 b y hb) hA'⟩
  have hlt : ∀ {b : Nat} {y : Blk}, Ht[b]? = some (some y) → b < Ht.length := fun hb => (List.getElem?_eq_some_iff.1 hb).1
  obtain ⟨e, f⟩ := prTM_ok hpl q1 f1 hA.left
  refine ⟨σ2, ⟨fun b hb => ?_, h1, ⟨fun b y hb => ?_, fun b b' y y' hb hb' hs hg hg' he => ?_⟩, fun b k1 k2 hg => ?_, hp.os, hp.tape, hp.out, hp.size, hp.kd, fun k hk hW => hp.frame k hk fun b hb hl hg => hW b (hWW b hb hl) hl hg, fun b hb hn => ?_⟩, ⟨fun t ht => ?_, fun v hv => insideL_mem f1 hv, by rw [hT.size, e], hT.defers⟩⟩
  · have := hold b hb
    have q := hp.ext b hb
    simp only [Sg.pl, Pl.mk.injEq] at this
    exact ⟨this.1.trans q.1, this.2.1.trans q.2.1, this.2.2.1.trans q.2.2.1, this.2.2.2.trans q.2.2.2⟩
  · obtain ⟨x', hx', hs⟩ := hsb b y hb
    exact ⟨f2 b y hb, hs.at_ (hp.rel.blk _ x' hx').2⟩
  · obtain ⟨x', hx', hs1⟩ := hsb b y hb
    obtain ⟨x2, hx2, hs2⟩ := hsb b' y' hb'
    exact hinj b b' (hlt hb) (hlt hb') (hp.rel.inj _ _ x' x2 hx' hx2 (by rw [hs1.shd, hs2.shd]; exact hs) hg hg' he)
  · obtain ⟨k3, k4⟩ := h3' b k1 k2
    exact (hp.new _ k3 k4 hg).imp id fun ⟨c, hc, h, hcg, hce⟩ => ⟨c, hWW c hc h, h, hcg, hce⟩
  · have := List.all_eq_true.1 h7 b (List.mem_range.2 hb)
    simp only [Bool.or_eq_true] at this
    rcases this with h | h
    · exact absurd (by simpa using h) hn
    · exact sameO_eq h
  · obtain ⟨g1, g2⟩ := f t ht
    rw [hT.val t g1, g2]

/-- Rows that are ready for a loop: one's own go by a new name, and no elements become a row. -/
inductive Absb where
  | mv (b : Nat)
  | gh (t : Nat) (e : TypeId) (sh : List CK)
  | row (t : Nat) (e : TypeId) (sh : List CK)
  deriving Inhabited
/-- A slice of cells, all of its own: where it lies, how many elements, how many places (0: those of the block). -/
def ownS : SV → Option (Nat × Nat × Option Nat)
  | .slice (some a) n c => if a.off = 0 ∧ a.spot = none then some (a.block, n, some c) else none
  | .vec b n => some (b, n, none)
  | _ => none
def reRow (v0 : SV) (h n : Nat) (v : SV) : SV := if v.same v0 then .asl h (.lit n) else v
/-- Its cells as a row. -/
def rowB (P : Program) (b n : Nat) (c : Option Nat) (e : TypeId) (sh : List CK) (H : Hp) : Option Blk := (getC H b).bind fun y =>
  if y.ro = false ∧ y.elem = e ∧ P.cellsOf e = sh.length ∧ 0 < sh.length ∧ n * sh.length ≤ y.cells.length ∧ (match c with | some c => !y.opn && decide (y.cells.length = c * sh.length) | none => y.opn) = true then
    (rowOfL {} sh 0 n (y.cells.take (n * sh.length)) (zeroC sh)).map fun l => ⟨[], e, false, true, some ⟨.lit n, sh, l⟩⟩
  else none
def reAsl (b h : Nat) (v : SV) : SV := match v with
  | .asl c n => if c = b then .asl h n else .asl c n
  | v => v
def absb1 (P : Program) (x : Absb) (T : List SV) (H : Hp) : Option (List SV × Hp × List Nat) := match x with
  | .mv b => (match getB H b with
    | some y => if y.ro = false ∧ y.abs.isSome = true then some (T.map (reAsl b H.length), H.set b none ++ [some y], [b]) else none
    | none => none)
  | .gh t e sh => (match T[t]? with
    | some (.slice base 0 0) => some (T.set t (.asl H.length (.lit 0)), H ++ [some ⟨[], e, false, true, some ⟨.lit 0, sh, zeroC sh⟩⟩], [])
    | _ => none)
  | .row t e sh => (T[t]?).bind fun v => (ownS v).bind fun q => (rowB P q.1 q.2.1 q.2.2 e sh H).map fun y => (T.map (reRow v H.length q.2.1), H.set q.1 none ++ [some y], [q.1])
def absb (P : Program) : List Absb → List SV → Hp → Option (List SV × Hp × List Nat)
  | [], T, H => some (T, H, [])
  | x :: l, T, H => match absb1 P x T H with
    | some (T1, H1, W1) => (match absb P l T1 H1 with
      | some (T2, H2, W2) => some (T2, H2, W1 ++ W2)
      | none => none)
    | none => none
theorem noFacts {ρ : Env} : Facts.Holds P ρ {} :=
  ⟨(fun _ h => by cases h), (fun _ h => by cases h), (fun _ h => by cases h), (fun _ h => by cases h), (fun _ h => by cases h), (fun _ h => by cases h), (fun _ h => by cases h), (fun _ h => by cases h), ⟨(fun _ h => by cases h), (fun _ h => by cases h), (fun _ h => by cases h), (fun _ h => by cases h)⟩, (fun _ h => by cases h), (fun _ h => by cases h)⟩
theorem rowB_ok {σ : Sg} {H : Hp} {w : World} (hr : HRel P ρ σ H w) {b n : Nat} {c : Option Nat} {e : TypeId} {sh : List CK} {y : Blk} (h : rowB P b n c e sh H = some y) :
    ∃ cap, (∀ k, c = some k → cap = k) ∧ (c = none → cap = σ.cap b) ∧ σ.gh b = none ∧ σ.off b = 0 ∧ Post P ρ σ (σ.snocP H.length ⟨σ.blk b, cap, 0, none⟩) H (H.set b none ++ [some y]) [b] w w := by
  unfold rowB at h
  obtain ⟨z, hz, h0⟩ := Option.bind_eq_some_iff.1 h
  clear h
  rw [Option.ite_none_right_eq_some] at h0
  · obtain ⟨⟨hro, rfl, hcs, hpos, hle, hopn⟩, h0⟩ := h0
    obtain ⟨l, hl, hy⟩ := Option.map_eq_some_iff.1 h0
    clear h0
    subst hy
    obtain ⟨hzi, rest, hrow, h1, h2⟩ := hr.con hz hro
    obtain ⟨hb, hab, hrc⟩ := getC_some hz
    obtain ⟨hg, hoff, _⟩ := (hr.blk b z hb).2.con hab hrc
    obtain ⟨g1, _, g3⟩ := rowOfL_ok (P := P) (ρ := ρ) noFacts σ n 0 _ _ l hl (by simp; omega) (zeroC_fit sh)
    have hrv : rowsV ρ ⟨.lit n, sh, l⟩ n = denL ρ σ (z.cells.take (n * sh.length)) := by
      unfold rowsV
      rw [← g3]; simp
    have hsplit : denL ρ σ z.cells ++ rest = rowsV ρ ⟨.lit n, sh, l⟩ n ++ (denL ρ σ (z.cells.drop (n * sh.length)) ++ rest) := by
      rw [hrv, ← List.append_assoc, ← denL_append, List.take_append_drop]
    have hlen : ∃ cap, (∀ k, c = some k → cap = k) ∧ (c = none → cap = σ.cap b) ∧ z.cells.length + rest.length = cap * P.cellsOf z.elem := by
      cases c with
      | some k =>
        simp only [Bool.and_eq_true, Bool.not_eq_true', decide_eq_true_eq] at hopn
        refine ⟨k, fun _ h => Option.some.inj h, (fun h => by cases h), ?_⟩
        rw [h1 hopn.1, hcs, hopn.2]; simp
      | none => exact ⟨σ.cap b, (fun _ h => by cases h), fun _ => rfl, h2 hopn⟩
    obtain ⟨cap, c1, c2, c3⟩ := hlen
    refine ⟨cap, c1, c2, hg, hoff, ?_⟩
    have hncap : n ≤ cap := by
      have : n * sh.length ≤ cap * sh.length := by rw [hcs] at c3; omega
      exact Nat.le_of_mul_le_mul_right this hpos
    refine Post.moveP (w' := w) hr hb rfl hg.symm (fun h => by rw [hrc] at h; cases h) (by simp [Blk.shd, hab]) rfl (BlkAt.ofRow rfl ?_) rfl rfl rfl rfl fun _ _ _ => rfl
    refine rowAt_of (P := P) (A := ⟨.lit n, sh, l⟩) (K := n) (rest := denL ρ σ (z.cells.drop (n * sh.length)) ++ rest) (by simp [NE.den]) (by simp [NE.den]) g1 (by rw [← hsplit]; exact hrow) ?_ hcs.symm hncap
    rw [hrv]
    simp only [List.length_append, denL_length, List.length_take, List.length_drop]
    rw [Nat.min_eq_left hle]
    omega
theorem absb1_ok {x : Absb} {T T' : List SV} {H H' : Hp} {W : List Nat} (h : absb1 P x T H = some (T', H', W)) {σ : Sg} {w : World} {a : Act} (hr : HRel P ρ σ H w) (hT : TRel ds ρ σ H.length T a) :
    ∃ σ', Post P ρ σ σ' H H' W w w ∧ TRel ds ρ σ' H'.length T' a := by
  cases x with
  | mv b =>
    simp only [absb1] at h
    split at h
    · rename_i y hy
      split at h
      · rename_i hc
        cases h
        have hb := getB_some hy
        have hlt : b < H.length := (List.getElem?_eq_some_iff.1 hb).1
        obtain ⟨hi, hat⟩ := hr.blk b y hb
        have ha := σ.snocP_agree H.length (σ.pl b)
        have hp := Post.move (w' := w) hr hb (fun h => h) (by simp [Blk.shd, hc.1]) (y := y) hi (hat.to (denL_agree ha _ hi) fun _ => rfl) rfl rfl rfl rfl fun _ _ _ => rfl
        refine ⟨_, hp, ?_⟩
        have hm := hT.mono (m := H.length + 1) ha (Nat.le_succ _)
        have key : ∀ v : SV, v.inside H.length = true → (reAsl b H.length v).den ρ (σ.snocP H.length (σ.pl b)) = v.den ρ (σ.snocP H.length (σ.pl b)) ∧ (reAsl b H.length v).inside (H.length + 1) = true ∧ ((reAsl b H.length v).isAny = v.isAny) := by
          intro v hv
          unfold reAsl
          split
          · rename_i c n
            split
            · rename_i e
              subst e
              have h1 : (σ.snocP H.length (σ.pl c)).pl H.length = (σ.snocP H.length (σ.pl c)).pl c := by rw [Sg.snocP_pl, ha.pl hlt]
              have b1 : (σ.snocP H.length (σ.pl c)).blk H.length = (σ.snocP H.length (σ.pl c)).blk c := congrArg Pl.blk h1
              have b2 : (σ.snocP H.length (σ.pl c)).cap H.length = (σ.snocP H.length (σ.pl c)).cap c := congrArg Pl.cap h1
              have b3 : (σ.snocP H.length (σ.pl c)).off H.length = (σ.snocP H.length (σ.pl c)).off c := congrArg Pl.off h1
              have b4 : (σ.snocP H.length (σ.pl c)).gh H.length = (σ.snocP H.length (σ.pl c)).gh c := congrArg Pl.gh h1
              refine ⟨?_, by simp [SV.inside], rfl⟩
              simp only [SV.den, b1, b2, b3, b4]
            · exact ⟨rfl, SV.inside_mono (Nat.le_succ _) _ hv, rfl⟩
          · exact ⟨rfl, SV.inside_mono (Nat.le_succ _) _ hv, rfl⟩
        refine ⟨fun t ht => ?_, fun v hv => ?_, by rw [hm.size]; simp, hm.defers⟩
        · rw [List.getD_eq_getElem?_getD, List.getElem?_map] at ht ⊢
          cases hq : T[t]? with
          | none =>
            have e0 : T.getD t uS = uS := by rw [List.getD_eq_getElem?_getD, hq]; rfl
            have := hm.val t (by rw [e0]; rfl)
            rw [this, e0]; rfl
          | some v =>
            have e0 : T.getD t uS = v := by rw [List.getD_eq_getElem?_getD, hq]; rfl
            have hv := hT.ins v (List.mem_of_getElem? hq)
            obtain ⟨k1, _, k3⟩ := key v hv
            rw [hq] at ht
            simp only [Option.map_some, Option.getD_some] at ht ⊢
            rw [k3] at ht
            rw [k1, ← e0]
            exact hm.val t (by rw [e0]; exact ht)
        · obtain ⟨u, hu, rfl⟩ := List.mem_map.1 hv
          have := (key u (hT.ins u hu)).2.1
          simpa using this
      · cases h
    · cases h
  | gh t e sh =>
    simp only [absb1] at h
    split at h
    · rename_i base ht0
      cases h
      have hp := Post.add (w' := w) hr ⟨[], e, false, true, some ⟨.lit 0, sh, zeroC sh⟩⟩ ⟨0, 0, 0, some (base.map σ.addr)⟩ rfl (fun h => by cases h)
        (BlkAt.ofRows rfl rfl fun A hA => by
          simp only [Option.some.injEq] at hA; subst hA
          exact ⟨by simp [NE.den], zeroC_fit sh, (fun _ _ => by simp [NE.den]), (fun h => by cases h), (fun h => by cases h)⟩) rfl rfl rfl (Nat.le_refl _) fun _ _ => rfl
      refine ⟨_, hp, ?_⟩
      have ha := σ.snocP_agree H.length ⟨0, 0, 0, some (base.map σ.addr)⟩
      have hm := hT.mono (m := H.length + 1) ha (Nat.le_succ _)
      have hlt : t < T.length := (List.getElem?_eq_some_iff.1 ht0).1
      have e0 : T.getD t uS = .slice base 0 0 := by rw [List.getD_eq_getElem?_getD, ht0]; rfl
      refine ⟨fun s hs => ?_, fun v hv => ?_, by rw [hm.size]; simp, hm.defers⟩
      · by_cases hst : s = t
        · subst hst
          rw [List.getD_eq_getElem?_getD, List.getElem?_set_self hlt]
          have := hT.val s (by rw [e0]; rfl)
          rw [this, e0]
          simp [SV.den, Sg.snocP]
        · rw [List.getD_eq_getElem?_getD, List.getElem?_set_ne (Ne.symm hst), ← List.getD_eq_getElem?_getD] at hs ⊢
          exact hm.val s hs
      · rcases List.mem_or_eq_of_mem_set hv with hv | rfl
        · have := hm.ins v hv
          simpa using this
        · simp [SV.inside]
    · cases h
  | row t e sh =>
    simp only [absb1] at h
    obtain ⟨v0, hv0, h'⟩ := Option.bind_eq_some_iff.1 h
    clear h
    obtain ⟨⟨b, n, c⟩, hq, h⟩ := Option.bind_eq_some_iff.1 h'
    clear h'
    obtain ⟨y, hy, h'⟩ := Option.map_eq_some_iff.1 h
    clear h
    cases h'
    obtain ⟨cap, c1, c2, hg, hoff, hp⟩ := rowB_ok hr hy
    refine ⟨_, hp, ?_⟩
    have ha := σ.snocP_agree H.length ⟨σ.blk b, cap, 0, none⟩
    have hm := hT.mono (m := H.length + 1) ha (Nat.le_succ _)
    have hin0 := hT.ins v0 (List.mem_of_getElem? hv0)
    have hd0 : v0.den ρ (σ.snocP H.length ⟨σ.blk b, cap, 0, none⟩) = (SV.asl H.length (.lit n)).den ρ (σ.snocP H.length ⟨σ.blk b, cap, 0, none⟩) ∧ v0.isAny = false := by
      have e1 : (SV.asl H.length (.lit n)).den ρ (σ.snocP H.length ⟨σ.blk b, cap, 0, none⟩) = .slice (some ⟨σ.blk b, 0, none⟩) n cap := by simp [SV.den, Sg.snocP, NE.den]
      rw [e1, SV.den_agree ha _ hin0]
      unfold ownS at hq
      split at hq
      · rename_i a n' c'
        split at hq
        · rename_i hao
          cases hq
          have := c1 _ rfl
          subst this
          refine ⟨?_, rfl⟩
          obtain ⟨ab, ao, asp⟩ := a
          obtain ⟨rfl, rfl⟩ := hao
          simp [SV.den, Sg.addr]
        · cases hq
      · cases hq
        have := c2 rfl
        subst this
        exact ⟨by simp [SV.den], rfl⟩
      · cases hq
    have key : ∀ v : SV, v.inside H.length = true → (reRow v0 H.length n v).den ρ (σ.snocP H.length ⟨σ.blk b, cap, 0, none⟩) = v.den ρ (σ.snocP H.length ⟨σ.blk b, cap, 0, none⟩) ∧ (reRow v0 H.length n v).inside (H.length + 1) = true ∧ ((reRow v0 H.length n v).isAny = v.isAny) := by
      intro v hv
      unfold reRow
      split
      · rename_i hs
        have := SV.same_eq _ _ hs
        subst this
        exact ⟨hd0.1.symm, by simp [SV.inside], by rw [hd0.2]; rfl⟩
      · exact ⟨rfl, SV.inside_mono (Nat.le_succ _) _ hv, rfl⟩
    refine ⟨fun t ht => ?_, fun v hv => ?_, by rw [hm.size]; simp, hm.defers⟩
    · rw [List.getD_eq_getElem?_getD, List.getElem?_map] at ht ⊢
      cases hq : T[t]? with
      | none =>
        have e0 : T.getD t uS = uS := by rw [List.getD_eq_getElem?_getD, hq]; rfl
        have := hm.val t (by rw [e0]; rfl)
        rw [this, e0]; rfl
      | some v =>
        have e0 : T.getD t uS = v := by rw [List.getD_eq_getElem?_getD, hq]; rfl
        have hv := hT.ins v (List.mem_of_getElem? hq)
        obtain ⟨k1, _, k3⟩ := key v hv
        rw [hq] at ht
        simp only [Option.map_some, Option.getD_some] at ht ⊢
        rw [k3] at ht
        rw [k1, ← e0]
        exact hm.val t (by rw [e0]; exact ht)
    · obtain ⟨u, hu, rfl⟩ := List.mem_map.1 hv
      have := (key u (hT.ins u hu)).2.1
      simpa using this
theorem absb_ok : ∀ {l : List Absb} {T T' : List SV} {H H' : Hp} {W : List Nat}, absb P l T H = some (T', H', W) → ∀ {σ : Sg} {w : World} {a : Act}, HRel P ρ σ H w → TRel ds ρ σ H.length T a →
    ∃ σ', Post P ρ σ σ' H H' W w w ∧ TRel ds ρ σ' H'.length T' a
  | [], T, T', H, H', W, h, σ, w, a, hr, hT => by
    simp only [absb] at h; cases h
    exact ⟨σ, Post.refl hr, hT⟩
  | x :: l, T, T', H, H', W, h, σ, w, a, hr, hT => by
    simp only [absb] at h
    split at h
    · rename_i T1 H1 W1 h1
      split at h
      · rename_i T2 H2 W2 h2
        cases h
        obtain ⟨σ1, p1, t1⟩ := absb1_ok h1 hr hT
        obtain ⟨σ2, p2, t2⟩ := absb_ok h2 p1.rel t1
        exact ⟨σ2, p1.trans p2, t2⟩
      · cases h
    · cases h

/-- A walk, seen from the blocks at an earlier place. -/
def From (P : Program) (ρ ρ' : Env) (H0 : Hp) (W : List Nat) (c : Code) (T : List SV) (H : Hp) (e : Ex) (T' : List SV) (H' : Hp) : Prop :=
  ∀ (ro : Option Nat) (m B : Nat) (ds : List Deferred) (σ0 σ : Sg) (w0 w : World) (a : Act) (Q : Exit → Act → World → Prop), Post P ρ σ0 σ H0 H W w0 w → TRel ds ρ σ H.length T a → Marks ro B ds w →
    (∀ ds' σ' a' w', Post P ρ' σ0 σ' H0 H' W w0 w' → TRel ds' ρ' σ' H'.length T' a' → Marks ro B ds' w' → Q e.out a' w') → c.wpIn (Rn ro) m P Q a w
theorem from_ok {V : Vs} {z : Sz} (hz : z.le V.sz) {x : X3} {H0 : Hp} {W : List Nat} {c : Code} {T : List SV} {H : Hp} {e : Ex} {T1 : List SV} {H1 : Hp} {W1 : List Nat} {Tt : List SV} {Ht : Hp} {ren : List Nat}
    (hL : Leads P (envV V) c T H (e, T1, H1, W1)) (h : convChk z x H0 W T1 H1 W1 Tt Ht ren = true) : From P (envV V) (envV (V.put z x)) H0 W c T H e Tt Ht := by
  intro ro m B ds σ0 σ w0 w a Q hp hT hM hQ
  refine hL ro m B ds σ a w _ hT hp.rel hM fun ds1 σ1 a1 w1 hp1 hT1 hM1 => ?_
  obtain ⟨σ2, hp2, hT2⟩ := conv_ok hz h (ρ0 := envV V) (hp.trans hp1) hT1
  exact hQ ds1 σ2 a1 w1 hp2 hT2 hM1
/-- Rounds of a loop. -/
def FromR (P : Program) (ρ ρ' : Env) (H0 : Hp) (W : List Nat) (n : Nat) (c : Code) (T : List SV) (H : Hp) (e : Ex) (T' : List SV) (H' : Hp) : Prop :=
  ∀ (ro : Option Nat) (m B : Nat) (ds : List Deferred) (σ0 σ : Sg) (w0 w : World) (a : Act) (Q : Exit → Act → World → Prop), Post P ρ σ0 σ H0 H W w0 w → TRel ds ρ σ H.length T a → Marks ro B ds w →
    (∀ ds' σ' a' w', Post P ρ' σ0 σ' H0 H' W w0 w' → TRel ds' ρ' σ' H'.length T' a' → Marks ro B ds' w' → Q e.out a' w') → Code.roundsIn (Rn ro) m P c Q n a w
theorem FromR.out {H0 : Hp} {W : List Nat} {n : Nat} {c : Code} {T : List SV} {H : Hp} {e : Ex} {T' : List SV} {H' : Hp} (he : e ≠ .normal) (h : From P ρ ρ' H0 W c T H e T' H') : FromR P ρ ρ' H0 W (n + 1) c T H e T' H' := by
  intro ro m B ds σ0 σ w0 w a Q hp hT hM hQ
  rw [roundsIn_succ]
  refine h ro m B ds σ0 σ w0 w a _ hp hT hM fun ds' σ' a' w' hp' hT' hM' => ?_
  have := hQ ds' σ' a' w' hp' hT' hM'
  cases e with
  | normal => exact absurd rfl he
  | exit id => exact this
  | ret => exact this
theorem FromR.next {ρ1 : Env} {H0 : Hp} {W : List Nat} {n : Nat} {c : Code} {T : List SV} {H : Hp} {e : Ex} {T' : List SV} {H' : Hp} (h : From P ρ ρ1 H0 W c T H .normal T H) (h' : FromR P ρ1 ρ' H0 W n c T H e T' H') : FromR P ρ ρ' H0 W (n + 1) c T H e T' H' := by
  intro ro m B ds σ0 σ w0 w a Q hp hT hM hQ
  rw [roundsIn_succ]
  exact h ro m B ds σ0 σ w0 w a _ hp hT hM fun ds1 σ1 a1 w1 hp1 hT1 hM1 => h' ro m B ds1 σ0 σ1 w0 w1 a1 Q hp1 hT1 hM1 hQ
end Go.Proofs.Ytafnplkablkepaa.Ev

/-! The symbolic machine's trees, with rows: all ways of a function in one theorem. -/
namespace Go.Proofs.Ytafnplkablkepaa.Ev
set_option linter.unusedSimpArgs false
open Go Go.RowKit
set_option linter.unusedVariables false
set_option linter.unusedSectionVars false
variable {P : Program}
variable {ds : List Deferred}

/-- Numbers, truths and rows. -/
abbrev D3 := List Int × List Bool × List (Int → Int)
def D3.sz (d : D3) : Sz := ⟨d.1.length, d.2.1.length, d.2.2.length⟩
def Vs.plus (V : Vs) (d : D3) : Vs := V.add d.1 d.2.1 d.2.2
def X3.den (V : Vs) (x : X3) : D3 := (denN (envV V) x.ns, denB (envV V) x.bs, denA (envV V) x.rs)
theorem Vs.plus_sz (V : Vs) (d : D3) : (V.plus d).sz = V.sz.add d.sz := V.add_sz _ _ _
def Vs.first (V : Vs) (z : Sz) : Vs := ⟨V.L.take z.n, V.B.take z.m, V.A.take z.q⟩
theorem Vs.put_first (V : Vs) (z : Sz) (x : X3) : V.put z x = (V.first z).plus (x.den V) := rfl
theorem Vs.first_sz {V : Vs} {z : Sz} (h : z.le V.sz) : (V.first z).sz = z := by
  obtain ⟨h1, h2, h3⟩ := h
  simp only [Vs.sz] at h1 h2 h3
  simp [Vs.first, Vs.sz, Nat.min_eq_left h1, Nat.min_eq_left h2, Nat.min_eq_left h3]
theorem Vs.first_ext {V V' : Vs} (hE : Ext V V') {z : Sz} (h : z.le V.sz) : V'.first z = V.first z := by
  obtain ⟨xs, e1⟩ := hE.num
  obtain ⟨bs, e2⟩ := hE.tru
  obtain ⟨rs, e3⟩ := hE.row
  obtain ⟨h1, h2, h3⟩ := h
  simp only [Vs.sz] at h1 h2 h3
  unfold Vs.first
  rw [e1, e2, e3, List.take_append_of_le_length h1, List.take_append_of_le_length h2, List.take_append_of_le_length h3]
theorem Vs.first_self (V : Vs) : V.first V.sz = V := by simp [Vs.first, Vs.sz]
theorem Vs.first_plus (V : Vs) (d : D3) : (V.plus d).first V.sz = V := by
  have := Vs.first_ext (Ext.add V d.1 d.2.1 d.2.2) (Sz.le_refl V.sz)
  rw [Vs.first_self] at this
  exact this

structure LoopN where
  g : FuncId
  p : List Nat
  T0 : List SV
  H0 : Hp
  acts : List Absb
  T : List SV
  H : Hp
  W : List Nat
  z : Sz
  init : X3
  ren : List Nat
  deriving Inhabited
structure Ctx where
  bits : List (BE × Bool) := []
  calls : List ((FuncId × List SV) × SV) := []
  callsH : List CallE := []
  dom : Dom := {}
  loops : List LoopF := []
  cur : Option LoopN := none
def Ctx.facts (S : Facts) (c : Ctx) : Facts := { S with bits := c.bits, calls := c.calls, dom := c.dom, callsH := c.callsH }
structure Ctx.Holds (P : Program) (ρ : Env) (c : Ctx) : Prop where
  bits : ∀ p ∈ c.bits, p.1.den ρ = p.2
  calls : ∀ p ∈ c.calls, ∀ w, Calls P p.1.1 (denL ρ σ0 p.1.2).toArray w fun e w' => e = .returned (p.2.den ρ σ0) ∧ Below w.heap.size w w'
  callsH : ∀ e ∈ c.callsH, e.Ok P ρ
  dom : c.dom.Holds ρ
  loops : ∀ l ∈ c.loops, l.Ok P ρ
theorem Ctx.facts_ok {S : Facts} {c : Ctx} {ρ : Env} (hS : S.Holds P ρ) (h : c.Holds P ρ) : (c.facts S).Holds P ρ :=
  ⟨hS.eqs, h.bits, hS.fl, hS.f2i, h.calls, hS.sums, hS.exts, hS.extS, h.dom, h.callsH, hS.nans⟩
def belF (z : Sz) (l : LoopF) : Bool := belL z l.T && (belH z l.H && (belL z l.r.2.1 && belH z l.r.2.2.1))
def belE (z : Sz) (e : CallE) : Bool := belL z e.args && (belH z e.HM && (e.r.bel z && belH z e.Hn))
structure Ctx.Bel (z : Sz) (c : Ctx) : Prop where
  bits : ∀ p ∈ c.bits, p.1.bel z = true
  calls : ∀ p ∈ c.calls, belL z p.1.2 = true ∧ p.2.bel z = true
  callsH : ∀ e ∈ c.callsH, belE z e = true
  ivs : ∀ p ∈ c.dom.ivs, p.1 < z.n
  whs : ∀ p ∈ c.dom.whs, p.1 < z.n ∧ p.2.1.bel z = true
  aivs : ∀ p ∈ c.dom.aivs, p.1 < z.q
  awhs : ∀ p ∈ c.dom.awhs, p.1 < z.q ∧ p.2.1.bel z = true
  loops : ∀ l ∈ c.loops, belF z l = true
section
variable {V V' : Vs} (hE : Ext V V')
include hE
theorem Post.rel_to {ρ ρ' : Env} {σ σ' : Sg} {H H' : Hp} {W : List Nat} {w w' : World} (h : Post P ρ σ σ' H H' W w w') (hr : HRel P ρ' σ' H' w') : Post P ρ' σ σ' H H' W w w' :=
  ⟨h.ext, h.len, hr, h.new, h.os, h.tape, h.out, h.size, h.kd, h.frame, h.kept⟩
theorem LoopF.Ok.ext {l : LoopF} (hb : belF V.sz l = true) (h : l.Ok P (envV V)) : l.Ok P (envV V') := by
  simp only [belF, Bool.and_eq_true] at hb
  obtain ⟨h1, h2, h3, h4⟩ := hb
  intro x hx ro m B ds σ a w Q hT hr hM hQ
  exact h x hx ro m B ds σ a w Q ((hE.trel h1).1 hT) ((hE.hrel h2).1 hr) hM fun ds' σ' a' w' hp hT' hM' => hQ ds' σ' a' w' (Post.rel_to hE hp ((hE.hrel h4).2 hp.rel)) ((hE.trel h3).2 hT') hM'
theorem belH_append {z : Sz} : ∀ {H K : Hp}, belH z H = true → belH z K = true → belH z (H ++ K) = true
  | [], K, _, h => h
  | x :: H, K, h, h' => by
    simp only [belH, Bool.and_eq_true] at h
    simp only [List.cons_append, belH, Bool.and_eq_true]
    exact ⟨h.1, belH_append h.2 h'⟩
theorem CallE.Ok.ext {e : CallE} (hb : belE V.sz e = true) (h : e.Ok P (envV V)) : e.Ok P (envV V') := by
  simp only [belE, Bool.and_eq_true] at hb
  obtain ⟨h1, h2, h3, h4⟩ := hb
  intro σ w hr
  rw [denL_ext hE σ _ h1]
  refine Calls.mono (h σ w ((hE.hrel h2).1 hr)) fun x w' ⟨σ', hp, he⟩ => ⟨σ', Post.rel_to hE hp ((hE.hrel (belH_append hE h2 h4)).2 hp.rel), ?_⟩
  rw [SV.ext hE σ' _ h3]; exact he
end
theorem Ctx.Holds.ext {c : Ctx} {V V' : Vs} (h : c.Holds P (envV V)) (hE : Ext V V') (hb : c.Bel V.sz) : c.Holds P (envV V') := by
  refine ⟨fun p hp => ?_, fun p hp w => ?_, fun e he => (h.callsH e he).ext hE (hb.callsH e he), ⟨fun p hp => ?_, fun p hp => ?_, fun p hp x => ?_, fun p hp => ?_⟩, fun l hl => (h.loops l hl).ext hE (hb.loops l hl)⟩
  · rw [BE.ext hE _ (hb.bits p hp)]; exact h.bits p hp
  · rw [denL_ext hE _ _ (hb.calls p hp).1, SV.ext hE _ _ (hb.calls p hp).2]; exact h.calls p hp w
  · rw [hE.n (hb.ivs p hp)]; exact h.dom.ivs p hp
  · rw [hE.n (hb.whs p hp).1, NE.ext hE _ (hb.whs p hp).2]; exact h.dom.whs p hp
  · rw [hE.a (hb.aivs p hp)]; exact h.dom.aivs p hp x
  · rw [hE.a (hb.awhs p hp).1, NE.exta hE _ (hb.awhs p hp).2]; exact h.dom.awhs p hp
theorem belF_mono {z z' : Sz} (hz : z.le z') (l : LoopF) (h : belF z l = true) : belF z' l = true := by
  simp only [belF, Bool.and_eq_true] at h ⊢
  exact ⟨belL_mono hz _ h.1, belH_mono hz _ h.2.1, belL_mono hz _ h.2.2.1, belH_mono hz _ h.2.2.2⟩
theorem belE_mono {z z' : Sz} (hz : z.le z') (l : CallE) (h : belE z l = true) : belE z' l = true := by
  simp only [belE, Bool.and_eq_true] at h ⊢
  exact ⟨belL_mono hz _ h.1, belH_mono hz _ h.2.1, SV.bel_mono hz _ h.2.2.1, belH_mono hz _ h.2.2.2⟩
theorem Ctx.Bel.mono {c : Ctx} {z z' : Sz} (h : c.Bel z) (hz : z.le z') : c.Bel z' :=
  ⟨fun p hp => BE.bel_mono hz _ (h.bits p hp), fun p hp => ⟨belL_mono hz _ (h.calls p hp).1, SV.bel_mono hz _ (h.calls p hp).2⟩, fun e he => belE_mono hz e (h.callsH e he), fun p hp => Nat.lt_of_lt_of_le (h.ivs p hp) hz.1, fun p hp => ⟨Nat.lt_of_lt_of_le (h.whs p hp).1 hz.1, NE.bel_mono hz _ (h.whs p hp).2⟩,
   fun p hp => Nat.lt_of_lt_of_le (h.aivs p hp) hz.2.2, fun p hp => ⟨Nat.lt_of_lt_of_le (h.awhs p hp).1 hz.2.2, NE.bel_mono hz _ (h.awhs p hp).2⟩, fun l hl => belF_mono hz l (h.loops l hl)⟩

/-- A range more. -/
def addRL (l : List (Nat × Int × Int)) (i : Nat) (lo hi : Int) : List (Nat × Int × Int) := (match findN l i with
  | some r => (i, max r.1 lo, min r.2 hi)
  | none => (i, lo, hi)) :: l
def Dom.addR (D : Dom) (i : Nat) (lo hi : Int) : Dom := { D with ivs := addRL D.ivs i lo hi }
def Dom.addA (D : Dom) (i : Nat) (lo hi : Int) : Dom := { D with aivs := addRL D.aivs i lo hi }
theorem Dom.addR_ok {D : Dom} {ρ : Env} (h : D.Holds ρ) {i : Nat} {lo hi : Int} (h1 : lo ≤ ρ.n i) (h2 : ρ.n i ≤ hi) : (D.addR i lo hi).Holds ρ := by
  refine ⟨fun p hp => ?_, h.whs, h.aivs, h.awhs⟩
  simp only [Dom.addR, addRL] at hp
  rcases List.mem_cons.1 hp with rfl | hp
  · split
    · rename_i r hr
      have := h.ivs _ (findN_mem hr)
      simp only at this ⊢; omega
    · exact ⟨h1, h2⟩
  · exact h.ivs p hp
theorem Dom.addA_ok {D : Dom} {ρ : Env} (h : D.Holds ρ) {i : Nat} {lo hi : Int} (h1 : ∀ x, lo ≤ ρ.a i x ∧ ρ.a i x ≤ hi) : (D.addA i lo hi).Holds ρ := by
  refine ⟨h.ivs, h.whs, fun p hp => ?_, h.awhs⟩
  simp only [Dom.addA, addRL] at hp
  rcases List.mem_cons.1 hp with rfl | hp
  · split
    · rename_i r hr
      intro x
      have := h.aivs _ (findN_mem hr) x
      have := h1 x
      simp only at *; omega
    · exact h1
  · exact h.aivs p hp
/-- What a truth tells of a variable's range. -/
def refine_ (D : Dom) (b : BE) (v : Bool) : Dom := match b, v with
  | .icmp .leq (.lit l) (.var i), true => (match findN D.ivs i with | some r => D.addR i l r.2 | none => D)
  | .icmp .leq (.lit l) (.var i), false => (match findN D.ivs i with | some r => D.addR i r.1 (l - 1) | none => D)
  | .icmp .leq (.var i) (.lit l), true => (match findN D.ivs i with | some r => D.addR i r.1 l | none => D)
  | .icmp .leq (.var i) (.lit l), false => (match findN D.ivs i with | some r => D.addR i (l + 1) r.2 | none => D)
  | .icmp .eql (.var i) (.lit l), true => D.addR i l l
  | .icmp .eql (.lit l) (.var i), true => D.addR i l l
  | .icmp .eql (.var i) (.lit l), false => (match findN D.ivs i with | some r => if r.1 = l then D.addR i (l + 1) r.2 else if r.2 = l then D.addR i r.1 (l - 1) else D | none => D)
  | _, _ => D
theorem refine_ok {D : Dom} {ρ : Env} (h : D.Holds ρ) {b : BE} {v : Bool} (hb : b.den ρ = v) : (refine_ D b v).Holds ρ := by
  unfold refine_
  split
  · have h1 := of_decide_eq_true hb
    simp only [NE.den] at h1
    split
    · rename_i r hr; exact Dom.addR_ok h h1 (h.ivs _ (findN_mem hr)).2
    · exact h
  · have h1 := of_decide_eq_false hb
    simp only [NE.den] at h1
    split
    · rename_i r hr; exact Dom.addR_ok h (h.ivs _ (findN_mem hr)).1 (by omega)
    · exact h
  · have h1 := of_decide_eq_true hb
    simp only [NE.den] at h1
    split
    · rename_i r hr; exact Dom.addR_ok h (h.ivs _ (findN_mem hr)).1 h1
    · exact h
  · have h1 := of_decide_eq_false hb
    simp only [NE.den] at h1
    split
    · rename_i r hr; exact Dom.addR_ok h (by omega) (h.ivs _ (findN_mem hr)).2
    · exact h
  · simp only [BE.den, COp.int, NE.den, beq_iff_eq] at hb
    exact Dom.addR_ok h (by omega) (by omega)
  · simp only [BE.den, COp.int, NE.den, beq_iff_eq] at hb
    exact Dom.addR_ok h (by omega) (by omega)
  · simp only [BE.den, COp.int, NE.den, beq_eq_false_iff_ne] at hb
    split
    · rename_i r hr
      have := h.ivs _ (findN_mem hr)
      simp only at this
      split
      · exact Dom.addR_ok h (by omega) this.2
      · split
        · exact Dom.addR_ok h this.1 (by omega)
        · exact h
    · exact h
  · exact h
theorem addRL_bel {l : List (Nat × Int × Int)} {i n : Nat} {lo up : Int} (h : ∀ p ∈ l, p.1 < n) (hi : i < n) : ∀ p ∈ addRL l i lo up, p.1 < n := by
  intro p hp
  simp only [addRL] at hp
  rcases List.mem_cons.1 hp with rfl | hp
  · split <;> exact hi
  · exact h p hp
theorem refine_rest (D : Dom) (b : BE) (v : Bool) : (refine_ D b v).whs = D.whs ∧ (refine_ D b v).aivs = D.aivs ∧ (refine_ D b v).awhs = D.awhs := by
  unfold refine_
  split <;> (try split) <;> (try split) <;> (try split) <;> exact ⟨rfl, rfl, rfl⟩
theorem refine_bel {D : Dom} {z : Sz} (h : ∀ p ∈ D.ivs, p.1 < z.n) {b : BE} {v : Bool} (hb : b.bel z = true) : ∀ p ∈ (refine_ D b v).ivs, p.1 < z.n := by
  unfold refine_
  split <;> (try (simp only [BE.bel, NE.bel, Bool.and_true, Bool.true_and] at hb; have hi := Nat.blt_eq.mp hb)) <;> (try split) <;> (try split) <;> (try split) <;> first | exact h | exact addRL_bel h hi
def Ctx.bit (c : Ctx) (b : BE) (v : Bool) : Ctx := { c with bits := (b, v) :: c.bits, dom := refine_ c.dom b v }
theorem Ctx.bit_ok {c : Ctx} {ρ : Env} (h : c.Holds P ρ) {b : BE} {v : Bool} (hb : b.den ρ = v) : (c.bit b v).Holds P ρ :=
  ⟨fun p hp => (List.mem_cons.1 hp).elim (fun e => by rw [e]; exact hb) (h.bits p), h.calls, h.callsH, refine_ok h.dom hb, h.loops⟩
theorem Ctx.bit_bel {c : Ctx} {z : Sz} (h : c.Bel z) {b : BE} {v : Bool} (hb : b.bel z = true) : (c.bit b v).Bel z := by
  obtain ⟨e1, e2, e3⟩ := refine_rest c.dom b v
  exact ⟨fun p hp => (List.mem_cons.1 hp).elim (fun e => by rw [e]; exact hb) (h.bits p), h.calls, h.callsH, refine_bel h.ivs hb, by simp only [Ctx.bit, e1]; exact h.whs, by simp only [Ctx.bit, e2]; exact h.aivs, by simp only [Ctx.bit, e3]; exact h.awhs, h.loops⟩

/-- All ways through a function, or through the body of a loop. -/
inductive Tr where
  | ret (x : X3) (ren : List Nat)
  | next (x : X3) (ren : List Nat)
  | out (i : Nat) (x : X3) (ren : List Nat)
  | ite (b : BE) (t e : Tr)
  | call (S : Sig) (x x' : X3) (c : CallE) (t : Tr)
  | pcall (f : FuncId) (args : List SV) (r : SV) (z : Sz) (t : Tr)
  | rng (i : Nat) (lo hi : Int) (t : Tr)
  | arng (i : Nat) (lo hi : Int) (t : Tr)
  | whole (i M : Nat) (t : Tr)
  | awhole (i M : Nat) (t : Tr)
  | fact (b : BE) (v : Bool) (t : Tr)
  | loop (l : LoopN) (body exits : Tr)
  | ex (r : Res) (z : Sz) (t rest : Tr)
  | told (l : LoopF) (t : Tr)
  | tcall (c : CallE) (t : Tr)
  | jn (l : LoopF) (bs : List BE) (t : Tr)
  | nil
  deriving Inhabited

def exN : Nat → (List Int → Prop) → Prop
  | 0, K => K []
  | k + 1, K => ∃ x : Int, exN k fun l => K (x :: l)
def exB : Nat → (List Bool → Prop) → Prop
  | 0, K => K []
  | k + 1, K => ∃ x : Bool, exB k fun l => K (x :: l)
def exA : Nat → (List (Int → Int) → Prop) → Prop
  | 0, K => K []
  | k + 1, K => ∃ x : Int → Int, exA k fun l => K (x :: l)
theorem exN_ok : ∀ {k : Nat} {K : List Int → Prop}, exN k K → ∃ l, l.length = k ∧ K l
  | 0, K, h => ⟨[], rfl, h⟩
  | k + 1, K, ⟨x, h⟩ => by
    obtain ⟨l, hl, h⟩ := exN_ok h
    exact ⟨x :: l, by simp [hl], h⟩
theorem exB_ok : ∀ {k : Nat} {K : List Bool → Prop}, exB k K → ∃ l, l.length = k ∧ K l
  | 0, K, h => ⟨[], rfl, h⟩
  | k + 1, K, ⟨x, h⟩ => by
    obtain ⟨l, hl, h⟩ := exB_ok h
    exact ⟨x :: l, by simp [hl], h⟩
theorem exA_ok : ∀ {k : Nat} {K : List (Int → Int) → Prop}, exA k K → ∃ l, l.length = k ∧ K l
  | 0, K, h => ⟨[], rfl, h⟩
  | k + 1, K, ⟨x, h⟩ => by
    obtain ⟨l, hl, h⟩ := exA_ok h
    exact ⟨x :: l, by simp [hl], h⟩
def exV (z : Sz) (K : D3 → Prop) : Prop := exN z.n fun xs => exB z.m fun bs => exA z.q fun rs => K (xs, bs, rs)
theorem exV_ok {z : Sz} {K : D3 → Prop} (h : exV z K) : ∃ d : D3, d.sz = z ∧ K d := by
  obtain ⟨xs, h1, h⟩ := exN_ok h
  obtain ⟨bs, h2, h⟩ := exB_ok h
  obtain ⟨rs, h3, h⟩ := exA_ok h
  exact ⟨(xs, bs, rs), by simp [D3.sz, h1, h2, h3], h⟩
def allN : Nat → (List Int → Prop) → Prop
  | 0, K => K []
  | k + 1, K => ∀ x : Int, allN k fun l => K (x :: l)
def allB : Nat → (List Bool → Prop) → Prop
  | 0, K => K []
  | k + 1, K => ∀ x : Bool, allB k fun l => K (x :: l)
def allA : Nat → (List (Int → Int) → Prop) → Prop
  | 0, K => K []
  | k + 1, K => ∀ x : Int → Int, allA k fun l => K (x :: l)
theorem allN_ok : ∀ {k : Nat} {K : List Int → Prop}, allN k K → ∀ l, l.length = k → K l
  | 0, K, h, [], _ => h
  | k + 1, K, h, x :: l, hl => allN_ok (h x) l (by simpa using hl)
  | 0, K, h, x :: l, hl => by simp at hl
  | k + 1, K, h, [], hl => by simp at hl
theorem allB_ok : ∀ {k : Nat} {K : List Bool → Prop}, allB k K → ∀ l, l.length = k → K l
  | 0, K, h, [], _ => h
  | k + 1, K, h, x :: l, hl => allB_ok (h x) l (by simpa using hl)
  | 0, K, h, x :: l, hl => by simp at hl
  | k + 1, K, h, [], hl => by simp at hl
theorem allA_ok : ∀ {k : Nat} {K : List (Int → Int) → Prop}, allA k K → ∀ l, l.length = k → K l
  | 0, K, h, [], _ => h
  | k + 1, K, h, x :: l, hl => allA_ok (h x) l (by simpa using hl)
  | 0, K, h, x :: l, hl => by simp at hl
  | k + 1, K, h, [], hl => by simp at hl
def allV (z : Sz) (K : D3 → Prop) : Prop := allN z.n fun xs => allB z.m fun bs => allA z.q fun rs => K (xs, bs, rs)
theorem allV_ok {z : Sz} {K : D3 → Prop} (h : allV z K) (d : D3) (hd : d.sz = z) : K d := by
  obtain ⟨xs, bs, rs⟩ := d
  simp only [D3.sz, ← hd, allV] at h
  exact allA_ok (allB_ok (allN_ok h xs rfl) bs rfl) rs rfl
/-- Functions of so many numbers, truths and rows. -/
def curA : Nat → Type → Type
  | 0, α => α
  | k + 1, α => (Int → Int) → curA k α
def curB : Nat → Type → Type
  | 0, α => α
  | k + 1, α => Bool → curB k α
def curN : Nat → Type → Type
  | 0, α => α
  | k + 1, α => Int → curN k α
abbrev cur (z : Sz) (α : Type) : Type := curN z.n (curB z.m (curA z.q α))
def appA {α : Type} : (m : Nat) → curA m α → List (Int → Int) → α
  | 0, f, _ => f
  | m + 1, f, l => appA m (f (l.headD fun _ => 0)) l.tail
def appB {α : Type} : (m : Nat) → curB m α → List Bool → α
  | 0, f, _ => f
  | m + 1, f, l => appB m (f (l.headD false)) l.tail
def appN {α : Type} : (k : Nat) → curN k α → List Int → α
  | 0, f, _ => f
  | k + 1, f, l => appN k (f (l.headD 0)) l.tail
def app3 {α : Type} (z : Sz) (f : cur z α) (d : D3) : α := appA z.q (appB z.m (appN z.n f d.1) d.2.1) d.2.2

/-- What has to be shown: R of what is returned; of a loop's body N of the next round's numbers, O of those that lead out. -/
def Tr.vc (P : Program) : Tr → (D3 → Prop) → (D3 → Prop) → (Nat → D3 → Prop) → Option (Nat × D3) → Vs → Prop
  | .ret x _, R, _, _, _, V => R (x.den V)
  | .next x _, _, N, _, _, V => N (x.den V)
  | .out i x _, _, _, O, _, V => O i (x.den V)
  | .ite b t e, R, N, O, _, V => (b.den (envV V) = true → t.vc P R N O none V) ∧ (b.den (envV V) = false → e.vc P R N O none V)
  | .call S x x' c t, R, N, O, _, V => exV S.out fun d => Spec P S ⟨denN (envV V) x.ns, denB (envV V) x.bs, denA (envV V) x.rs⟩ d.1 d.2.1 d.2.2 ∧ t.vc P R N O none (V.plus d)
  | .pcall f args r z t, R, N, O, _, V => exV z fun d => (∀ w, Calls P f (denL (envV V) σ0 args).toArray w fun e w' => e = .returned (r.den (envV (V.plus d)) σ0) ∧ Below w.heap.size w w') ∧ t.vc P R N O none (V.plus d)
  | .rng i lo hi t, R, N, O, _, V => (lo ≤ V.L.getD i 0 ∧ V.L.getD i 0 ≤ hi) ∧ t.vc P R N O none V
  | .arng i lo hi t, R, N, O, _, V => (∀ x, lo ≤ V.A.getD i (fun _ => 0) x ∧ V.A.getD i (fun _ => 0) x ≤ hi) ∧ t.vc P R N O none V
  | .whole i M t, R, N, O, _, V => ∃ x : Int, (Rp (V.L.getD i 0).toNat x ∧ x.natAbs ≤ M) ∧ t.vc P R N O none (V.add [x] [] [])
  | .awhole i M t, R, N, O, _, V => ∃ f : Int → Int, (∀ x, Rp (V.A.getD i (fun _ => 0) x).toNat (f x) ∧ (f x).natAbs ≤ M) ∧ t.vc P R N O none (V.add [] [] [f])
  | .fact b v t, R, N, O, _, V => b.den (envV V) = v ∧ t.vc P R N O none V
  | .loop l body exits, R, N, O, _, V => ∃ (I : cur l.z Prop) (rk : cur l.z Nat), app3 l.z I (l.init.den V) ∧
      allV l.z fun d => app3 l.z I d → body.vc P (fun _ => False) (fun d' => app3 l.z I d' ∧ app3 l.z rk d' < app3 l.z rk d) (fun i d' => exits.vc P R N O (some (i, d')) V) none (V.plus d)
  | .ex _ _ t rest, R, N, O, s, V => match s with
    | some (0, d) => t.vc P R N O none (V.plus d)
    | some (i + 1, d) => rest.vc P R N O (some (i, d)) V
    | none => False
  | .told l t, R, N, O, _, V => l.Ok P (envV V) ∧ t.vc P R N O none V
  | .tcall e t, R, N, O, _, V => e.Ok P (envV V) ∧ t.vc P R N O none V
  | .jn _ _ t, R, N, O, _, V => t.vc P R N O none V
  | .nil, _, _, _, _, _ => False

mutual
/-- Slices of nothing that are asked for as rows become such ones. -/
def ghoV (K : Hp) : SV → SV → Hp → SV × Hp
  | .asl b _, .slice base 0 0, H => (match getA K b with
    | some (y, A) => (.asl H.length (.lit 0), H ++ [some ⟨[], y.elem, false, true, some ⟨.lit 0, A.sh, zeroC A.sh⟩⟩])
    | none => (.slice base 0 0, H))
  | .tuple l, .tuple m, H => (.tuple (ghoL K l m H).1, (ghoL K l m H).2)
  | .agg l, .agg m, H => (.agg (ghoL K l m H).1, (ghoL K l m H).2)
  | _, v, H => (v, H)
def ghoL (K : Hp) : List SV → List SV → Hp → List SV × Hp
  | f :: l, v :: m, H => ((ghoV K f v H).1 :: (ghoL K l m (ghoV K f v H).2).1, (ghoL K l m (ghoV K f v H).2).2)
  | _, m, H => (m, H)
end
mutual
theorem ghoV_ok {ρ : Env} (K : Hp) : ∀ (f v : SV) (H : Hp) {σ : Sg} {w : World}, HRel P ρ σ H w → v.inside H.length = true →
    ∃ σ', Post P ρ σ σ' H (ghoV K f v H).2 [] w w ∧ (ghoV K f v H).1.den ρ σ' = v.den ρ σ ∧ (ghoV K f v H).1.inside (ghoV K f v H).2.length = true ∧ ((ghoV K f v H).1.isAny = v.isAny) := by
  intro f v H σ w hr hv
  unfold ghoV
  split
  · rename_i b n base
    split
    · rename_i y A hA
      have hp := Post.add (w' := w) hr ⟨[], y.elem, false, true, some ⟨.lit 0, A.sh, zeroC A.sh⟩⟩ ⟨0, 0, 0, some (base.map σ.addr)⟩ rfl (fun h => by cases h)
        (BlkAt.ofRows rfl rfl fun B hB => by
          simp only [Option.some.injEq] at hB; subst hB
          exact ⟨by simp [NE.den], zeroC_fit _, (fun _ _ => by simp [NE.den]), (fun h => by cases h), (fun h => by cases h)⟩) rfl rfl rfl (Nat.le_refl _) fun _ _ => rfl
      exact ⟨_, hp, by simp [SV.den, Sg.snocP], by simp [SV.inside], rfl⟩
    · exact ⟨σ, Post.refl hr, rfl, hv, rfl⟩
  · rename_i l m
    obtain ⟨σ', h1, h2, h3⟩ := ghoL_ok K l m H hr hv
    exact ⟨σ', h1, by simp only [SV.den, h2], h3, rfl⟩
  · rename_i l m
    obtain ⟨σ', h1, h2, h3⟩ := ghoL_ok K l m H hr hv
    exact ⟨σ', h1, by simp only [SV.den, h2], h3, rfl⟩
  · exact ⟨σ, Post.refl hr, rfl, hv, rfl⟩
theorem ghoL_ok {ρ : Env} (K : Hp) : ∀ (l m : List SV) (H : Hp) {σ : Sg} {w : World}, HRel P ρ σ H w → insideL H.length m = true →
    ∃ σ', Post P ρ σ σ' H (ghoL K l m H).2 [] w w ∧ denL ρ σ' (ghoL K l m H).1 = denL ρ σ m ∧ insideL (ghoL K l m H).2.length (ghoL K l m H).1 = true := by
  intro l m H σ w hr hm
  unfold ghoL
  split
  · rename_i f l v m
    simp only [insideL, Bool.and_eq_true] at hm
    obtain ⟨σ1, p1, d1, i1, _⟩ := ghoV_ok K f v H hr hm.1
    have hm2 : insideL (ghoV K f v H).2.length m = true := insideL_mono p1.len m hm.2
    obtain ⟨σ2, p2, d2, i2⟩ := ghoL_ok K l m (ghoV K f v H).2 p1.rel hm2
    refine ⟨σ2, p1.trans p2, ?_, ?_⟩
    · simp only [denL]
      rw [d2, SV.den_agree p2.ext _ i1, d1, denL_agree p1.ext _ hm.2]
    · simp only [insideL, Bool.and_eq_true]
      exact ⟨SV.inside_mono p2.len _ i1, i2⟩
  · exact ⟨σ, Post.refl hr, rfl, hm⟩
end

/-- What the tree is of. -/
inductive Job where
  | fn (S : Sig)
  | body (l : LoopN) (exits : List (Res × Sz)) (z : Sz)
def exitsOf : Tr → List (Res × Sz)
  | .ex r z _ rest => (r, z) :: exitsOf rest
  | _ => []
def isNormal : Ex → Bool
  | .normal => true
  | _ => false
/-- One run of a loop's body, told by other terms. -/
def outChk (P : Program) (S : Facts) (lf d : Nat) (c : Ctx) (l : LoopN) (e : Ex) (Tt : List SV) (Ht : Hp) (z zz : Sz) (x : X3) (ren : List Nat) : Bool :=
  decide (x.sz = zz) && (match codeAt P l.g (0 :: l.p) with
  | some y => if Nat.ble l.T.length 549755813888 then (match evCW P (c.facts S) c.loops lf (evFS P (c.facts S) c.loops lf d) l.g 1000 (0 :: l.p) y (Sl.ofL l.T) l.H [] with
    | some (e1, T1, H1, W1) => decide (e1 = e) && convChk z x l.H0 l.W T1.toL H1 W1 Tt Ht ren
    | none => false) else false
  | none => false)
def loopChk (P : Program) (l : LoopN) (exits : List (Res × Sz)) (z : Sz) : Bool :=
  decide (l.init.sz = l.z) && (belL z l.T0 && (belH z l.H0 && (belL (z.add l.z) l.T && (belH (z.add l.z) l.H && ((match absb P l.acts l.T0 l.H0 with
    | some (T1, H1, W1) => convChk z l.init l.H0 l.W T1 H1 W1 l.T l.H l.ren
    | none => false) && exits.all fun x => !(isNormal x.1.1) && (decide (x.1.2.2.2 = l.W) && (belL (z.add x.2) x.1.2.1 && belH (z.add x.2) x.1.2.2.1)))))))
/-- The same on both sides. -/
def prRefl : Pr → Bool
  | .num x y => decide (x = y)
  | .tru x y => decide (x = y)
  | .txt i j => Nat.beq i j
  | .arr x y => decide (x = y)
theorem prRefl_ok {ρ : Env} {l : List Pr} (h : l.all prRefl = true) : All ρ ρ l := by
  intro p hp
  have := List.all_eq_true.1 h p hp
  cases p with
  | num x y => simp only [prRefl, decide_eq_true_eq] at this; simp only [Pr.holds, this]
  | tru x y => simp only [prRefl, decide_eq_true_eq] at this; simp only [Pr.holds, this]
  | txt i j => simp only [prRefl] at this; have := Nat.eq_of_beq_eq_true this; subst this; rfl
  | arr x y => simp only [prRefl, decide_eq_true_eq] at this; simp only [Pr.holds, this]
/-- A loop that is walked as it stands. -/
def toldChk (P : Program) (S : Facts) (lf d : Nat) (c : Ctx) (l : LoopF) : Bool := match codeAt P l.f l.path with
  | some x => (match Nat.ble l.T.length 549755813888 with
    | true => (match evCW P (c.facts S) c.loops lf (evFS P (c.facts S) c.loops lf d) l.f 1000 l.path x (Sl.ofL l.T) l.H [] with
      | some (e, T1, H1, W1) => decide (e = l.r.1) && (okC l.H H1 W1 l.r.2.1 l.r.2.2.1 l.r.2.2.2 && (match prT T1.toL l.r.2.1, prH H1 l.r.2.2.1 with
        | some l1, some l2 => (l1 ++ l2).all prRefl
        | _, _ => false))
      | none => false)
    | false => false)
  | none => false
theorem walk_ok {ρ : Env} (hm : P.follows .mixedOrders = true) (hn : namesOk P = true) {S : Facts} (hS : S.Holds P ρ) {lf d : Nat} {c : Ctx} (hc : c.Holds P ρ) {g : FuncId} {p : List Nat} {x : Code} {T : List SV} {H : Hp} {e : Ex} {T1 : Sl} {H1 : Hp} {W1 : List Nat}
    (hx : codeAt P g p = some x) (hle : T.length ≤ 549755813888) (he : evCW P (c.facts S) c.loops lf (evFS P (c.facts S) c.loops lf d) g 1000 p x (Sl.ofL T) H [] = some (e, T1, H1, W1)) : Leads P ρ x T H (e, T1.toL, H1, W1) := by
  have eT : (Sl.ofL T).toL = T := Sl.ofL_toL hle
  have hsm : (Sl.ofL T).small = true := by
    unfold Sl.small Sl.ofL
    exact Nat.ble_eq.mpr hle
  obtain ⟨hC, _⟩ := evCS_ok P _ _ lf _ _ _ _ _ _ _ _ hsm (evCW_nil he)
  rw [eT] at hC
  exact evC_ok hm hn (Ctx.facts_ok hS hc) hc.loops (evFS_ok hm hn (Ctx.facts_ok hS hc) hc.loops d) _ _ _ _ _ _ hx hC
theorem told_loop {ρ : Env} (hm : P.follows .mixedOrders = true) (hn : namesOk P = true) {S : Facts} (hS : S.Holds P ρ) {lf d : Nat} {c : Ctx} (hc : c.Holds P ρ) {l : LoopF} (h : toldChk P S lf d c l = true) : l.Ok P ρ := by
  intro x hx
  unfold toldChk at h
  rw [hx] at h
  simp only at h
  split at h
  · rename_i hle
    have hle := Nat.le_of_ble_eq_true hle
    split at h
    · rename_i e T1 H1 W1 he
      have hC := walk_ok hm hn hS hc hx hle he
      simp only [Bool.and_eq_true, decide_eq_true_eq] at h
      obtain ⟨h1, h2, h3⟩ := h
      split at h3
      · rename_i l1 l2 q1 q2
        have hA := prRefl_ok (ρ := ρ) h3
        have := hC.conv q1 q2 h2 hA.left hA.right
        obtain ⟨f, p, T, H, r1, r2, r3, r4⟩ := l
        simp only at h1 this ⊢
        subst h1
        exact this
      · cases h3
    · cases h
  · cases h
/-- A loop that is walked in all cases of some truths, with one and the same end. -/
def toldBits (P : Program) (S : Facts) (lf d : Nat) : List BE → Ctx → LoopF → Bool
  | [], c, l => toldChk P S lf d c l
  | b :: bs, c, l => toldBits P S lf d bs (c.bit b true) l && toldBits P S lf d bs (c.bit b false) l
theorem told_bits {ρ : Env} (hm : P.follows .mixedOrders = true) (hn : namesOk P = true) {S : Facts} (hS : S.Holds P ρ) {lf d : Nat} {l : LoopF} : ∀ (bs : List BE) {c : Ctx}, c.Holds P ρ → toldBits P S lf d bs c l = true → l.Ok P ρ
  | [], c, hc, h => told_loop hm hn hS hc h
  | b :: bs, c, hc, h => by
    simp only [toldBits, Bool.and_eq_true] at h
    cases hb : b.den ρ with
    | true => exact told_bits hm hn hS bs (Ctx.bit_ok hc hb) h.1
    | false => exact told_bits hm hn hS bs (Ctx.bit_ok hc hb) h.2
/-- A contract's terms: the inputs, and behind them new variables for the results. -/
def freshX (z : Sz) (o : Sz) : X3 := ⟨(List.range o.n).map fun i => .var (z.n + i), (List.range o.m).map fun i => .var (z.m + i), (List.range o.q).map fun i => .avar (z.q + i)⟩
def X3.app (x y : X3) : X3 := ⟨x.ns ++ y.ns, x.bs ++ y.bs, x.rs ++ y.rs⟩
theorem map_congr_range {α : Type} {f g : Nat → α} : ∀ (k : Nat), (∀ i, i < k → f i = g i) → (List.range k).map f = (List.range k).map g := fun k h => List.map_congr_left fun i hi => h i (List.mem_range.1 hi)
theorem range_getD {α : Type} (L l : List α) (d : α) : (List.range l.length).map (fun i => (L ++ l).getD (L.length + i) d) = l := by
  apply List.ext_getElem?
  intro i
  rw [List.getElem?_map]
  by_cases hi : i < l.length
  · rw [List.getElem?_range hi]
    simp [List.getD_eq_getElem?_getD, List.getElem?_append_right, hi]
  · rw [List.getElem?_eq_none (by simpa using hi), List.getElem?_eq_none (by omega)]; rfl
theorem freshX_den (V : Vs) (d : D3) : (freshX V.sz d.sz).den (V.plus d) = d := by
  obtain ⟨xs, bs, rs⟩ := d
  simp only [freshX, X3.den, denN, denB, denA, List.map_map, D3.sz]
  refine Prod.ext ?_ (Prod.ext ?_ ?_)
  · exact (map_congr_range _ fun i _ => by simp [NE.den, envV, Vs.plus, Vs.add, Vs.sz]).trans (range_getD V.L xs 0)
  · exact (map_congr_range _ fun i _ => by simp [BE.den, envV, Vs.plus, Vs.add, Vs.sz]).trans (range_getD V.B bs false)
  · exact (map_congr_range _ fun i _ => by simp [NE.aden, envV, Vs.plus, Vs.add, Vs.sz]).trans (range_getD V.A rs fun _ => 0)
/-- That these are all ways. -/
def Tr.chk (P : Program) (S : Facts) (lf d : Nat) : Tr → Job → Ctx → Sz → Bool
  | .ret x ren, J, c, _ => (match J with
    | .fn F => decide (x.sz = F.out) && (match evFS P (c.facts S) c.loops lf d F.f F.args F.H with
      | some (u, H1, W1) => convChk F.inp x F.H [] [(ghoV (F.H ++ F.Hn) F.r u H1).1] (ghoV (F.H ++ F.Hn) F.r u H1).2 W1 [F.r] (F.H ++ F.Hn) ren && !F.r.isAny
      | none => false)
    | _ => false)
  | .next x ren, J, c, _ => (match J with
    | .body l _ z0 => outChk P S lf d c l .normal l.T l.H z0 l.z x ren
    | _ => false)
  | .out i x ren, J, c, _ => (match J with
    | .body l exits z0 => (match exits[i]? with
      | some (r, zz) => outChk P S lf d c l r.1 r.2.1 r.2.2.1 z0 zz x ren
      | none => false)
    | _ => false)
  | .ite b t e, J, c, z => b.bel z && (t.chk P S lf d J (c.bit b true) z && e.chk P S lf d J (c.bit b false) z)
  | .call F x x' ce t, J, c, z => x.bel z && (decide (x'.ns = x.ns ++ (freshX z F.out).ns) && (decide (x'.bs = x.bs ++ (freshX z F.out).bs) && (decide (x'.rs = x.rs ++ (freshX z F.out).rs) && (callChk F x x' ce && (belE (z.add F.out) ce && t.chk P S lf d J { c with callsH := ce :: c.callsH } (z.add F.out))))))
  | .pcall g gs r y t, J, c, z => belL z gs && (r.bel (z.add y) && t.chk P S lf d J { c with calls := ((g, gs), r) :: c.calls } (z.add y))
  | .rng i lo hi t, J, c, z => Nat.blt i z.n && t.chk P S lf d J { c with dom := c.dom.addR i lo hi } z
  | .arng i lo hi t, J, c, z => Nat.blt i z.q && t.chk P S lf d J { c with dom := c.dom.addA i lo hi } z
  | .whole i M t, J, c, z => Nat.blt i z.n && (Nat.ble M 9007199254740992 && t.chk P S lf d J { c with dom := { c.dom with whs := (i, .var z.n, M) :: c.dom.whs } } (z.add ⟨1, 0, 0⟩))
  | .awhole i M t, J, c, z => Nat.blt i z.q && (Nat.ble M 9007199254740992 && t.chk P S lf d J { c with dom := { c.dom with awhs := (i, .avar z.q, M) :: c.dom.awhs } } (z.add ⟨0, 0, 1⟩))
  | .fact b v t, J, c, z => b.bel z && t.chk P S lf d J (c.bit b v) z
  | .loop l body exits, J, c, z => loopChk P l (exitsOf exits) z && (body.chk P S lf d (.body l (exitsOf exits) z) c (z.add l.z) && exits.chk P S lf d J { c with cur := some l } z)
  | .ex r y t rest, J, c, z => (match c.cur with
    | some l => t.chk P S lf d J { c with loops := ⟨l.g, l.p, l.T0, l.H0, r⟩ :: c.loops, cur := none } (z.add y) && rest.chk P S lf d J c z
    | none => false)
  | .told l t, J, c, z => belF z l && t.chk P S lf d J { c with loops := l :: c.loops } z
  | .tcall e t, J, c, z => belE z e && t.chk P S lf d J { c with callsH := e :: c.callsH } z
  | .jn l bs t, J, c, z => (belF z l && toldBits P S lf d bs c l) && t.chk P S lf d J { c with loops := l :: c.loops } z
  | .nil, _, _, _ => true

/-- What is so of the function, or of the loop's body. -/
def Concl (P : Program) (R : D3 → Prop) (N : D3 → Prop) (O : Nat → D3 → Prop) (V : Vs) : Job → Prop
  | .fn F => ∃ d : D3, d.sz = F.out ∧ R d ∧ Spec P F (V.first F.inp) d.1 d.2.1 d.2.2
  | .body l exits z =>
    (∃ d : D3, d.sz = l.z ∧ N d ∧ ∀ x, codeAt P l.g l.p = some (.loop x) → From P (envV V) (envV ((V.first z).plus d)) l.H0 l.W x l.T l.H .normal l.T l.H) ∨
    (∃ i r y d, exits[i]? = some (r, y) ∧ d.sz = y ∧ O i d ∧ ∀ x, codeAt P l.g l.p = some (.loop x) → From P (envV V) (envV ((V.first z).plus d)) l.H0 l.W x l.T l.H r.1 r.2.1 r.2.2.1)
/-- The job names variables that are there. -/
def Job.Bel (P : Program) (z : Sz) : Job → Prop
  | .fn F => F.inp.le z ∧ belL F.inp F.args = true ∧ belH F.inp F.H = true ∧ insideL F.H.length F.args = true ∧ ((P.funcs[F.f]?).bind (·.body)).isSome = true
  | .body l exits z0 => z0.le z ∧ belL z l.T = true ∧ belH z l.H = true
theorem Job.Bel.mono {z z' : Sz} (hz : z.le z') {J : Job} (h : J.Bel P z) : J.Bel P z' := by
  cases J with
  | fn F => exact ⟨Sz.le_trans h.1 hz, h.2⟩
  | body l exits z0 => exact ⟨Sz.le_trans h.1 hz, belL_mono hz _ h.2.1, belH_mono hz _ h.2.2⟩
theorem From.back {V V' : Vs} (hE : Ext V V') {ρ' : Env} {H0 : Hp} {W : List Nat} {c : Code} {T : List SV} {H : Hp} {e : Ex} {T' : List SV} {H' : Hp} (h1 : belL V.sz T = true) (h2 : belH V.sz H = true) (h : From P (envV V') ρ' H0 W c T H e T' H') : From P (envV V) ρ' H0 W c T H e T' H' :=
  fun ro m B ds σ0 σ w0 w a Q hp hT hM hQ => h ro m B ds σ0 σ w0 w a Q (Post.rel_to hE hp ((hE.hrel h2).2 hp.rel)) ((hE.trel h1).2 hT) hM hQ
theorem Concl.back {R : D3 → Prop} {N : D3 → Prop} {O : Nat → D3 → Prop} {V V' : Vs} {J : Job} (hE : Ext V V') (hJ : J.Bel P V.sz) (h : Concl P R N O V' J) : Concl P R N O V J := by
  cases J with
  | fn F =>
    obtain ⟨d, h1, h2, h3⟩ := h
    exact ⟨d, h1, h2, by rw [← Vs.first_ext hE hJ.1]; exact h3⟩
  | body l exits z =>
    simp only [Concl, Vs.first_ext hE hJ.1] at h ⊢
    rcases h with ⟨d, h1, h2, h3⟩ | ⟨i, r, y, d, h0, h1, h2, h3⟩
    · exact .inl ⟨d, h1, h2, fun x hx => (h3 x hx).back hE hJ.2.1 hJ.2.2⟩
    · exact .inr ⟨i, r, y, d, h0, h1, h2, fun x hx => (h3 x hx).back hE hJ.2.1 hJ.2.2⟩

theorem X3.den_sz (V : Vs) (x : X3) : (x.den V).sz = x.sz := by simp [D3.sz, X3.den, X3.sz, denN, denB, denA]
theorem outChk_ok (hm : P.follows .mixedOrders = true) (hn : namesOk P = true) {S : Facts} {V : Vs} (hS : S.Holds P (envV V)) {lf d : Nat} {c : Ctx} (hc : c.Holds P (envV V)) {l : LoopN} {e : Ex} {Tt : List SV} {Ht : Hp} {z zz : Sz} {x : X3} {ren : List Nat}
    (hz : z.le V.sz) (h : outChk P S lf d c l e Tt Ht z zz x ren = true) :
    (x.den V).sz = zz ∧ ∀ y, codeAt P l.g l.p = some (.loop y) → From P (envV V) (envV ((V.first z).plus (x.den V))) l.H0 l.W y l.T l.H e Tt Ht := by
  simp only [outChk, Bool.and_eq_true, decide_eq_true_eq] at h
  obtain ⟨h1, h2⟩ := h
  refine ⟨by rw [X3.den_sz]; exact h1, fun y hy => ?_⟩
  have hy' : codeAt P l.g (0 :: l.p) = some y := codeAt_child hy rfl
  rw [hy'] at h2
  simp only at h2
  split at h2
  · rename_i hle
    have hle := Nat.le_of_ble_eq_true hle
    split at h2
    · rename_i e1 T1 H1 W1 he
      simp only [Bool.and_eq_true, decide_eq_true_eq] at h2
      obtain ⟨h3, h4⟩ := h2
      subst h3
      rw [← Vs.put_first]
      exact from_ok hz (walk_ok hm hn hS hc hy' hle he) h4
    · cases h2
  · cases h2

theorem exitsOf_get : ∀ {t : Tr} {i : Nat} {r : Res} {y : Sz}, (exitsOf t)[i]? = some (r, y) → ∀ {R : D3 → Prop} {N : D3 → Prop} {O : Nat → D3 → Prop} {dd : D3} {V : Vs} {S : Facts} {lf d : Nat} {J : Job} {c : Ctx} {l : LoopN},
    c.cur = some l → t.vc P R N O (some (i, dd)) V → t.chk P S lf d J c V.sz = true →
    ∃ t' : Tr, SizeOf.sizeOf t' < SizeOf.sizeOf t ∧ t'.vc P R N O none (V.plus dd) ∧ t'.chk P S lf d J { c with loops := ⟨l.g, l.p, l.T0, l.H0, r⟩ :: c.loops, cur := none } (V.sz.add y) = true
  | .ex r y t rest, 0, _, _, h, R, N, O, dd, V, S, lf, d, J, c, l, hcur, hv, hk => by
    simp only [exitsOf, List.getElem?_cons_zero, Option.some.injEq, Prod.mk.injEq] at h
    obtain ⟨rfl, rfl⟩ := h
    simp only [Tr.chk, hcur, Bool.and_eq_true] at hk
    exact ⟨t, by simp; omega, hv, hk.1⟩
  | .ex r y t rest, i + 1, _, _, h, R, N, O, dd, V, S, lf, d, J, c, l, hcur, hv, hk => by
    simp only [exitsOf, List.getElem?_cons_succ] at h
    simp only [Tr.chk, hcur, Bool.and_eq_true] at hk
    obtain ⟨t', h1, h2, h3⟩ := exitsOf_get h hcur hv hk.2
    exact ⟨t', by simp; omega, h2, h3⟩
  | .ret _ _, _, _, _, h, _, _, _, _, _, _, _, _, _, _, _, _, _, _ => by simp [exitsOf] at h
  | .next _ _, _, _, _, h, _, _, _, _, _, _, _, _, _, _, _, _, _, _ => by simp [exitsOf] at h
  | .out _ _ _, _, _, _, h, _, _, _, _, _, _, _, _, _, _, _, _, _, _ => by simp [exitsOf] at h
  | .ite _ _ _, _, _, _, h, _, _, _, _, _, _, _, _, _, _, _, _, _, _ => by simp [exitsOf] at h
  | .call _ _ _ _ _, _, _, _, h, _, _, _, _, _, _, _, _, _, _, _, _, _, _ => by simp [exitsOf] at h
  | .pcall _ _ _ _ _, _, _, _, h, _, _, _, _, _, _, _, _, _, _, _, _, _, _ => by simp [exitsOf] at h
  | .rng _ _ _ _, _, _, _, h, _, _, _, _, _, _, _, _, _, _, _, _, _, _ => by simp [exitsOf] at h
  | .arng _ _ _ _, _, _, _, h, _, _, _, _, _, _, _, _, _, _, _, _, _, _ => by simp [exitsOf] at h
  | .whole _ _ _, _, _, _, h, _, _, _, _, _, _, _, _, _, _, _, _, _, _ => by simp [exitsOf] at h
  | .awhole _ _ _, _, _, _, h, _, _, _, _, _, _, _, _, _, _, _, _, _, _ => by simp [exitsOf] at h
  | .fact _ _ _, _, _, _, h, _, _, _, _, _, _, _, _, _, _, _, _, _, _ => by simp [exitsOf] at h
  | .loop _ _ _, _, _, _, h, _, _, _, _, _, _, _, _, _, _, _, _, _, _ => by simp [exitsOf] at h
  | .told _ _, _, _, _, h, _, _, _, _, _, _, _, _, _, _, _, _, _, _ => by simp [exitsOf] at h
  | .tcall _ _, _, _, _, h, _, _, _, _, _, _, _, _, _, _, _, _, _, _ => by simp [exitsOf] at h
  | .jn _ _ _, _, _, _, h, _, _, _, _, _, _, _, _, _, _, _, _, _, _ => by simp [exitsOf] at h
  | .nil, _, _, _, h, _, _, _, _, _, _, _, _, _, _, _, _, _, _ => by simp [exitsOf] at h

theorem ret_ok (hm : P.follows .mixedOrders = true) (hn : namesOk P = true) {S : Facts} {V : Vs} (hS : S.Holds P (envV V)) {lf d : Nat} {c : Ctx} (hc : c.Holds P (envV V)) {F : Sig} {u : SV} {H1 : Hp} {W1 : List Nat} {x : X3} {ren : List Nat}
    (hJ : (Job.fn F).Bel P V.sz) (he : evFS P (c.facts S) c.loops lf d F.f F.args F.H = some (u, H1, W1)) (h : convChk F.inp x F.H [] [(ghoV (F.H ++ F.Hn) F.r u H1).1] (ghoV (F.H ++ F.Hn) F.r u H1).2 W1 [F.r] (F.H ++ F.Hn) ren = true) (hany : F.r.isAny = false) :
    Spec P F (V.first F.inp) (x.den V).1 (x.den V).2.1 (x.den V).2.2 := by
  obtain ⟨j1, j2, j3, j4, j5⟩ := hJ
  intro σ w hr0
  have hE : Ext (V.first F.inp) V := by
    refine ⟨⟨V.L.drop F.inp.n, ?_⟩, ⟨V.B.drop F.inp.m, ?_⟩, ⟨V.A.drop F.inp.q, ?_⟩⟩ <;> simp [Vs.first]
  have esz := Vs.first_sz j1
  have hr : HRel P (envV V) σ F.H w := (hE.hrel (by rw [esz]; exact j3)).2 hr0
  have ea : denL (envV V) σ F.args = denL (envV (V.first F.inp)) σ F.args := denL_ext hE σ _ (by rw [esz]; exact j2)
  rw [← ea]
  have := evFS_ok hm hn (Ctx.facts_ok hS hc) hc.loops d F.f F.args F.H _ he σ w hr j4
  rw [callY_ne (notY hn j5)] at this
  obtain ⟨fn, hf⟩ : ∃ fn, P.funcs[F.f]? = some fn := by
    cases hf : P.funcs[F.f]? with
    | none => rw [hf] at j5; cases j5
    | some fn => exact ⟨fn, rfl⟩
  rw [hf] at j5
  obtain ⟨cc, hcc⟩ := Option.isSome_iff_exists.1 j5
  rw [enters hn hf (by simpa using hcc)] at this
  refine Calls.mono this fun e w' ⟨v, hv, σ0', hp0, hu0, hi0⟩ => ?_
  obtain ⟨σ1, hpg, hdg, hi, _⟩ := ghoV_ok (P := P) (F.H ++ F.Hn) F.r u H1 hp0.rel hi0
  have hp := (hp0.trans hpg).mono (W' := W1) fun b hb => by simpa using hb
  have hu : v = (ghoV (F.H ++ F.Hn) F.r u H1).1.den (envV V) σ1 := hu0.trans hdg.symm
  generalize ghoV (F.H ++ F.Hn) F.r u H1 = gq at *
  obtain ⟨u, H1⟩ := gq
  simp only at hp hu hi h
  have hT : TRel [] (envV V) σ1 H1.length [u] { tmps := #[v], defers := [] } := by
    refine ⟨fun t ht => ?_, fun y hy => by simp at hy; subst hy; exact hi, rfl, rfl⟩
    cases t with
    | zero => simpa using hu
    | succ t => simp [uS_den]
  obtain ⟨σ2, hp2, hT2⟩ := conv_ok j1 h (W := []) (ρ0 := envV V) (a := { tmps := #[v], defers := [] }) (by simpa using hp) hT
  rw [Vs.put_first] at hp2 hT2
  refine ⟨σ2, hp2, ?_⟩
  have := hT2.val 0 (by simpa using hany)
  rw [hv]
  simp at this
  rw [this]; rfl

theorem tree_ok (hm : P.follows .mixedOrders = true) (hn : namesOk P = true) {S : Facts} (hS : ∀ V, S.Holds P (envV V)) {lf d : Nat} (t : Tr) (J : Job) (c : Ctx) (V : Vs) {R : D3 → Prop} {N : D3 → Prop} {O : Nat → D3 → Prop}
    (h : t.chk P S lf d J c V.sz = true) (hc : c.Holds P (envV V)) (hbel : c.Bel V.sz) (hJ : J.Bel P V.sz) (hv : t.vc P R N O none V) : Concl P R N O V J := by
  match t with
  | .ret x ren =>
    cases J with
    | body l exits z => simp [Tr.chk] at h
    | fn F =>
      simp only [Tr.chk, Bool.and_eq_true, decide_eq_true_eq] at h
      obtain ⟨h0, h⟩ := h
      split at h
      · rename_i u H1 W1 he
        simp only [Bool.and_eq_true, Bool.not_eq_true'] at h
        exact ⟨x.den V, by rw [X3.den_sz]; exact h0, hv, ret_ok hm hn (hS V) hc hJ he h.1 h.2⟩
      · cases h
  | .next x ren =>
    cases J with
    | fn F => simp [Tr.chk] at h
    | body l exits z =>
      simp only [Tr.chk] at h
      obtain ⟨h1, h2⟩ := outChk_ok hm hn (hS V) hc hJ.1 h
      exact .inl ⟨_, h1, hv, h2⟩
  | .out i x ren =>
    cases J with
    | fn F => simp [Tr.chk] at h
    | body l exits z =>
      simp only [Tr.chk] at h
      split at h
      · rename_i r y hx
        obtain ⟨h1, h2⟩ := outChk_ok hm hn (hS V) hc hJ.1 h
        exact .inr ⟨i, r, y, _, hx, h1, hv, h2⟩
      · cases h
  | .ite b t e =>
    simp only [Tr.chk, Bool.and_eq_true] at h
    cases hd : b.den (envV V) with
    | true => exact tree_ok hm hn hS t J _ V h.2.1 (Ctx.bit_ok hc hd) (Ctx.bit_bel hbel h.1) hJ (hv.1 hd)
    | false => exact tree_ok hm hn hS e J _ V h.2.2 (Ctx.bit_ok hc hd) (Ctx.bit_bel hbel h.1) hJ (hv.2 hd)
  | .call F x x' ce t =>
    simp only [Tr.chk, Bool.and_eq_true, decide_eq_true_eq] at h
    obtain ⟨g1, g2, g3, g4, g5, g6, g7⟩ := h
    obtain ⟨dd, hdd, hv1, hv2⟩ := exV_ok hv
    have hE : Ext V (V.plus dd) := Ext.add V _ _ _
    have esz : (V.plus dd).sz = V.sz.add F.out := by rw [Vs.plus_sz, hdd]
    have hfr : (freshX V.sz F.out).den (V.plus dd) = dd := by rw [← hdd]; exact freshX_den V dd
    have hxe : x.den (V.plus dd) = x.den V := by
      simp only [X3.bel, Bool.and_eq_true] at g1
      refine Prod.ext ?_ (Prod.ext ?_ ?_)
      · exact List.map_congr_left fun e he => NE.ext hE e (List.all_eq_true.1 g1.1 e he)
      · exact List.map_congr_left fun e he => BE.ext hE e (List.all_eq_true.1 g1.2.1 e he)
      · exact List.map_congr_left fun e he => NE.exta hE e (List.all_eq_true.1 g1.2.2 e he)
    refine Concl.back hE hJ (tree_ok hm hn hS t J _ (V.plus dd) (by rw [esz]; exact g7) ?_ ?_ (hJ.mono hE.le) hv2)
    · have := hc.ext hE hbel
      refine ⟨this.bits, this.calls, fun e he => ?_, this.dom, this.loops⟩
      rcases List.mem_cons.1 he with rfl | he
      · have e1 : denN (envV (V.plus dd)) x.ns = denN (envV V) x.ns := congrArg Prod.fst hxe
        have e2 : denB (envV (V.plus dd)) x.bs = denB (envV V) x.bs := congrArg (fun q : D3 => q.2.1) hxe
        have e3 : denA (envV (V.plus dd)) x.rs = denA (envV V) x.rs := congrArg (fun q : D3 => q.2.2) hxe
        have f1 : denN (envV (V.plus dd)) (freshX V.sz F.out).ns = dd.1 := congrArg Prod.fst hfr
        have f2 : denB (envV (V.plus dd)) (freshX V.sz F.out).bs = dd.2.1 := congrArg (fun q : D3 => q.2.1) hfr
        have f3 : denA (envV (V.plus dd)) (freshX V.sz F.out).rs = dd.2.2 := congrArg (fun q : D3 => q.2.2) hfr
        refine call_of_spec (xs := dd.1) (bs := dd.2.1) (rs := dd.2.2) g5 ?_ ?_
        · rw [g2, g3, g4]
          simp only [denN, denB, denA, List.map_append, Vs.add] at f1 f2 f3 ⊢
          rw [f1, f2, f3]
        · rw [e1, e2, e3]; exact hv1
      · exact this.callsH e he
    · have := hbel.mono hE.le
      refine ⟨this.bits, this.calls, fun e he => ?_, this.ivs, this.whs, this.aivs, this.awhs, this.loops⟩
      rcases List.mem_cons.1 he with rfl | he
      · rw [esz]; exact g6
      · exact this.callsH e he
  | .pcall g gs r y t =>
    simp only [Tr.chk, Bool.and_eq_true] at h
    obtain ⟨dd, hdd, hv1, hv2⟩ := exV_ok hv
    have hE : Ext V (V.plus dd) := Ext.add V _ _ _
    have esz : (V.plus dd).sz = V.sz.add y := by rw [Vs.plus_sz, hdd]
    refine Concl.back hE hJ (tree_ok hm hn hS t J _ (V.plus dd) (by rw [esz]; exact h.2.2) ?_ ?_ (hJ.mono hE.le) hv2)
    · have := hc.ext hE hbel
      refine ⟨this.bits, fun p hp => ?_, this.callsH, this.dom, this.loops⟩
      rcases List.mem_cons.1 hp with rfl | hp
      · intro w
        simp only
        rw [denL_ext hE σ0 gs h.1]
        exact hv1 w
      · exact this.calls p hp
    · have := hbel.mono hE.le
      refine ⟨this.bits, fun p hp => ?_, this.callsH, this.ivs, this.whs, this.aivs, this.awhs, this.loops⟩
      rcases List.mem_cons.1 hp with rfl | hp
      · exact ⟨belL_mono hE.le _ h.1, by rw [esz]; exact h.2.1⟩
      · exact this.calls p hp
  | .rng i lo hi t =>
    simp only [Tr.chk, Bool.and_eq_true] at h
    exact tree_ok hm hn hS t J _ V h.2 ⟨hc.bits, hc.calls, hc.callsH, Dom.addR_ok hc.dom hv.1.1 hv.1.2, hc.loops⟩ ⟨hbel.bits, hbel.calls, hbel.callsH, addRL_bel hbel.ivs (Nat.blt_eq.mp h.1), hbel.whs, hbel.aivs, hbel.awhs, hbel.loops⟩ hJ hv.2
  | .arng i lo hi t =>
    simp only [Tr.chk, Bool.and_eq_true] at h
    exact tree_ok hm hn hS t J _ V h.2 ⟨hc.bits, hc.calls, hc.callsH, Dom.addA_ok hc.dom hv.1, hc.loops⟩ ⟨hbel.bits, hbel.calls, hbel.callsH, hbel.ivs, hbel.whs, addRL_bel hbel.aivs (Nat.blt_eq.mp h.1), hbel.awhs, hbel.loops⟩ hJ hv.2
  | .whole i M t =>
    simp only [Tr.chk, Bool.and_eq_true] at h
    obtain ⟨x, hx, hv⟩ := hv
    have hE : Ext V (V.add [x] [] []) := Ext.add V _ _ _
    have hi := Nat.blt_eq.mp h.1
    have e : (envV (V.add [x] [] [])).n V.L.length = x := by simp [envV, Vs.add, List.getD_eq_getElem?_getD]
    refine Concl.back hE hJ (tree_ok hm hn hS t J _ (V.add [x] [] []) (by rw [Vs.add_sz]; exact h.2.2) ?_ ?_ (hJ.mono hE.le) hv)
    · have := hc.ext hE hbel
      refine ⟨this.bits, this.calls, this.callsH, ⟨this.dom.ivs, fun p hp => ?_, this.dom.aivs, this.dom.awhs⟩, this.loops⟩
      rcases List.mem_cons.1 hp with rfl | hp
      · simp only [NE.den]
        show Rp ((envV (V.add [x] [] [])).n i).toNat ((envV (V.add [x] [] [])).n V.L.length) ∧ ((envV (V.add [x] [] [])).n V.L.length).natAbs ≤ M ∧ M ≤ 9007199254740992
        rw [hE.n hi, e]
        exact ⟨hx.1, hx.2, Nat.le_of_ble_eq_true h.2.1⟩
      · exact this.dom.whs p hp
    · have := hbel.mono hE.le
      refine ⟨this.bits, this.calls, this.callsH, this.ivs, fun p hp => ?_, this.aivs, this.awhs, this.loops⟩
      rcases List.mem_cons.1 hp with rfl | hp
      · exact ⟨Nat.lt_of_lt_of_le hi hE.le.1, by simp [NE.bel, Vs.sz, Vs.add]⟩
      · exact this.whs p hp
  | .awhole i M t =>
    simp only [Tr.chk, Bool.and_eq_true] at h
    obtain ⟨x, hx, hv⟩ := hv
    have hE : Ext V (V.add [] [] [x]) := Ext.add V _ _ _
    have hi := Nat.blt_eq.mp h.1
    have e : (envV (V.add [] [] [x])).a V.A.length = x := by simp [envV, Vs.add, List.getD_eq_getElem?_getD]
    refine Concl.back hE hJ (tree_ok hm hn hS t J _ (V.add [] [] [x]) (by rw [Vs.add_sz]; exact h.2.2) ?_ ?_ (hJ.mono hE.le) hv)
    · have := hc.ext hE hbel
      refine ⟨this.bits, this.calls, this.callsH, ⟨this.dom.ivs, this.dom.whs, this.dom.aivs, fun p hp => ?_⟩, this.loops⟩
      rcases List.mem_cons.1 hp with rfl | hp
      · simp only [NE.aden]
        show (∀ y, Rp ((envV (V.add [] [] [x])).a i y).toNat ((envV (V.add [] [] [x])).a V.A.length y) ∧ ((envV (V.add [] [] [x])).a V.A.length y).natAbs ≤ M) ∧ M ≤ 9007199254740992
        rw [hE.a hi, e]
        exact ⟨hx, Nat.le_of_ble_eq_true h.2.1⟩
      · exact this.dom.awhs p hp
    · have := hbel.mono hE.le
      refine ⟨this.bits, this.calls, this.callsH, this.ivs, this.whs, this.aivs, fun p hp => ?_, this.loops⟩
      rcases List.mem_cons.1 hp with rfl | hp
      · exact ⟨Nat.lt_of_lt_of_le hi hE.le.2.2, by simp [NE.bel, Vs.sz, Vs.add]⟩
      · exact this.awhs p hp
  | .fact b v t =>
    simp only [Tr.chk, Bool.and_eq_true] at h
    exact tree_ok hm hn hS t J _ V h.2 (Ctx.bit_ok hc hv.1) (Ctx.bit_bel hbel h.1) hJ hv.2
  | .loop l body exits =>
    simp only [Tr.chk, Bool.and_eq_true] at h
    obtain ⟨hl, hb, hx⟩ := h
    simp only [loopChk, Bool.and_eq_true, decide_eq_true_eq] at hl
    obtain ⟨g1, g3, g4, g5, g6, g7, g8⟩ := hl
    obtain ⟨I, rk, hI, hbody⟩ := hv
    have key : ∀ (n : Nat) (dd : D3), dd.sz = l.z → app3 l.z I dd → app3 l.z rk dd < n →
        ∃ i r y d', (exitsOf exits)[i]? = some (r, y) ∧ d'.sz = y ∧ exits.vc P R N O (some (i, d')) V ∧
          ∀ x, codeAt P l.g l.p = some (.loop x) → FromR P (envV (V.plus dd)) (envV (V.plus d')) l.H0 l.W n x l.T l.H r.1 r.2.1 r.2.2.1 := by
      intro n
      induction n with
      | zero => intro dd _ _ h; omega
      | succ n ih =>
        intro dd hdd hIx hlt
        have hE : Ext V (V.plus dd) := Ext.add V _ _ _
        have esz : (V.plus dd).sz = V.sz.add l.z := by rw [Vs.plus_sz, hdd]
        have hvb := allV_ok hbody dd hdd hIx
        have hC := tree_ok hm hn hS body (.body l (exitsOf exits) V.sz) c (V.plus dd) (by rw [esz]; exact hb) (hc.ext hE hbel) (hbel.mono hE.le)
          ⟨hE.le, by rw [esz]; exact g5, by rw [esz]; exact g6⟩ hvb
        simp only [Concl, Vs.first_plus] at hC
        rcases hC with ⟨d', k1, ⟨k3, k4⟩, k5⟩ | ⟨i, r, y, d', q0, q1, q2, q3⟩
        · obtain ⟨i, r, y, d2, q0, q1, q2, q3⟩ := ih d' k1 k3 (by omega)
          exact ⟨i, r, y, d2, q0, q1, q2, fun x hx => FromR.next (k5 x hx) (q3 x hx)⟩
        · have := List.all_eq_true.1 g8 _ (List.mem_of_getElem? q0)
          simp only [Bool.and_eq_true, Bool.not_eq_true'] at this
          exact ⟨i, r, y, d', q0, q1, q2, fun x hx => FromR.out (fun he => by have := this.1; rw [he] at this; cases this) (q3 x hx)⟩
    obtain ⟨i, r, y, d', q0, q1, q2, q3⟩ := key _ (l.init.den V) (by rw [X3.den_sz]; exact g1) hI (Nat.lt_succ_self _)
    obtain ⟨t', hs', hv', hk'⟩ := exitsOf_get q0 (c := { c with cur := some l }) rfl q2 hx
    have hE : Ext V (V.plus d') := Ext.add V _ _ _
    have esz : (V.plus d').sz = V.sz.add y := by rw [Vs.plus_sz, q1]
    have hxr := List.all_eq_true.1 g8 _ (List.mem_of_getElem? q0)
    simp only [Bool.and_eq_true, Bool.not_eq_true', decide_eq_true_eq] at hxr
    split at g7
    · rename_i T1 H1 W1 habs
      refine Concl.back hE hJ (tree_ok hm hn hS t' J _ (V.plus d') (by rw [esz]; exact hk') ?_ ?_ (hJ.mono hE.le) hv')
      · have := hc.ext hE hbel
        refine ⟨this.bits, this.calls, this.callsH, this.dom, fun f hf => ?_⟩
        rcases List.mem_cons.1 hf with rfl | hf
        · intro x hx' ro m B ds σ a w Q hT hr hM hQ
          have hT0 : TRel ds (envV V) σ l.H0.length l.T0 a := (hE.trel g3).1 hT
          have hr0 : HRel P (envV V) σ l.H0 w := (hE.hrel g4).1 hr
          obtain ⟨σ1, p1, t1⟩ := absb_ok habs hr0 hT0
          obtain ⟨σ2, p2, t2⟩ := conv_ok (V := V) (z := V.sz) (Sz.le_refl _) g7 (ρ0 := envV V) (p1.mono (W' := l.W ++ W1) fun b hb => List.mem_append_right _ hb) t1
          rw [Vs.put_first, Vs.first_self] at p2 t2
          refine wpIn_loop_rounds _ (q3 x hx' ro m B ds σ σ2 w w a Q p2 t2 hM fun ds' σ' a' w' hp' hT' hM' => hQ ds' σ' a' w' ?_ hT' hM')
          rw [hxr.2.1]; exact hp'
        · exact this.loops f hf
      · have := hbel.mono hE.le
        refine ⟨this.bits, this.calls, this.callsH, this.ivs, this.whs, this.aivs, this.awhs, fun f hf => ?_⟩
        rcases List.mem_cons.1 hf with rfl | hf
        · simp only [belF, Bool.and_eq_true]
          exact ⟨belL_mono hE.le _ g3, belH_mono hE.le _ g4, by rw [esz]; exact hxr.2.2.1, by rw [esz]; exact hxr.2.2.2⟩
        · exact this.loops f hf
    · cases g7
  | .told l t =>
    simp only [Tr.chk, Bool.and_eq_true] at h
    refine tree_ok hm hn hS t J _ V h.2 ⟨hc.bits, hc.calls, hc.callsH, hc.dom, fun f hf => ?_⟩ ⟨hbel.bits, hbel.calls, hbel.callsH, hbel.ivs, hbel.whs, hbel.aivs, hbel.awhs, fun f hf => ?_⟩ hJ hv.2
    · rcases List.mem_cons.1 hf with rfl | hf
      · exact hv.1
      · exact hc.loops f hf
    · rcases List.mem_cons.1 hf with rfl | hf
      · exact h.1
      · exact hbel.loops f hf
  | .tcall e t =>
    simp only [Tr.chk, Bool.and_eq_true] at h
    refine tree_ok hm hn hS t J _ V h.2 ⟨hc.bits, hc.calls, fun f hf => ?_, hc.dom, hc.loops⟩ ⟨hbel.bits, hbel.calls, fun f hf => ?_, hbel.ivs, hbel.whs, hbel.aivs, hbel.awhs, hbel.loops⟩ hJ hv.2
    · rcases List.mem_cons.1 hf with rfl | hf
      · exact hv.1
      · exact hc.callsH f hf
    · rcases List.mem_cons.1 hf with rfl | hf
      · exact h.1
      · exact hbel.callsH f hf
  | .jn l bs t =>
    simp only [Tr.chk, Bool.and_eq_true] at h
    refine tree_ok hm hn hS t J _ V h.2 ⟨hc.bits, hc.calls, hc.callsH, hc.dom, fun f hf => ?_⟩ ⟨hbel.bits, hbel.calls, hbel.callsH, hbel.ivs, hbel.whs, hbel.aivs, hbel.awhs, fun f hf => ?_⟩ hJ hv
    · rcases List.mem_cons.1 hf with rfl | hf
      · exact told_bits hm hn (hS V) bs hc h.1.2
      · exact hc.loops f hf
    · rcases List.mem_cons.1 hf with rfl | hf
      · exact h.1.1
      · exact hbel.loops f hf
  | .ex r y t rest => simp [Tr.vc] at hv
  | .nil => simp [Tr.vc] at hv
termination_by SizeOf.sizeOf t

def startB (D : Dom) (F : Sig) : Bool := D.ivs.all (fun p => Nat.blt p.1 F.inp.n) && (D.whs.all (fun p => Nat.blt p.1 F.inp.n && p.2.1.bel F.inp) && (D.aivs.all (fun p => Nat.blt p.1 F.inp.q) && (D.awhs.all (fun p => Nat.blt p.1 F.inp.q && p.2.1.bel F.inp) && (belL F.inp F.args && (belH F.inp F.H && insideL F.H.length F.args)))))
/-- All ways through a function: what it hands back. -/
theorem tree_at (hm : P.follows .mixedOrders = true) (hn : namesOk P = true) {S : Facts} (hS : ∀ V, S.Holds P (envV V)) {lf d : Nat} (F : Sig) (t : Tr) (D : Dom) (V : Vs) (hV : V.sz = F.inp)
    (hb : ((P.funcs[F.f]?).bind (·.body)).isSome = true) (h0 : startB D F = true) (h : t.chk P S lf d (.fn F) { dom := D } F.inp = true)
    (hD : D.Holds (envV V)) {R : D3 → Prop} (hv : t.vc P R (fun _ => False) (fun _ _ => False) none V) : ∃ d : D3, d.sz = F.out ∧ R d ∧ Spec P F V d.1 d.2.1 d.2.2 := by
  simp only [startB, Bool.and_eq_true] at h0
  obtain ⟨a1, a2, a3, a4, a5, a6, a7⟩ := h0
  have := tree_ok hm hn hS t (.fn F) { dom := D } V (by rw [hV]; exact h) ⟨(fun _ h => by cases h), (fun _ h => by cases h), (fun _ h => by cases h), hD, (fun _ h => by cases h)⟩
    ⟨(fun _ h => by cases h), (fun _ h => by cases h), (fun _ h => by cases h), fun p hp => ?_, fun p hp => ?_, fun p hp => ?_, fun p hp => ?_, (fun _ h => by cases h)⟩ ⟨by rw [hV]; exact Sz.le_refl _, a5, a6, a7, hb⟩ hv
  · obtain ⟨d, h1, h2, h3⟩ := this
    rw [← hV, Vs.first_self] at h3
    exact ⟨d, h1, h2, h3⟩
  · rw [hV]; exact Nat.blt_eq.mp (List.all_eq_true.1 a1 p hp)
  · have := List.all_eq_true.1 a2 p hp
    simp only [Bool.and_eq_true] at this
    rw [hV]; exact ⟨Nat.blt_eq.mp this.1, this.2⟩
  · rw [hV]; exact Nat.blt_eq.mp (List.all_eq_true.1 a3 p hp)
  · have := List.all_eq_true.1 a4 p hp
    simp only [Bool.and_eq_true] at this
    rw [hV]; exact ⟨Nat.blt_eq.mp this.1, this.2⟩
end Go.Proofs.Ytafnplkablkepaa.Ev

/-! The symbolic machine's trees: a tree is right if the ways through one place of it are, and the others. -/
namespace Go.Proofs.Ytafnplkablkepaa.Ev
set_option linter.unusedSimpArgs false
open Go Go.RowKit
set_option linter.unusedVariables false
set_option linter.unusedSectionVars false

/-- The ends of a loop without what comes behind them. -/
def Tr.blank : Tr → Tr
  | .ex r y _ rest => .ex r y .nil rest.blank
  | _ => .nil
/-- The ways that lead through this place. -/
def Tr.only : Tr → List Bool → Tr
  | .ite b t e, p => match p with
    | [] => .ite b t e
    | true :: p => .ite b (t.only p) .nil
    | false :: p => .ite b .nil (e.only p)
  | .call f x x' c t, p => .call f x x' c (t.only p)
  | .pcall f a r z t, p => .pcall f a r z (t.only p)
  | .rng i lo hi t, p => .rng i lo hi (t.only p)
  | .arng i lo hi t, p => .arng i lo hi (t.only p)
  | .whole i M t, p => .whole i M (t.only p)
  | .awhole i M t, p => .awhole i M (t.only p)
  | .fact b v t, p => .fact b v (t.only p)
  | .loop l b e, p => match p with
    | [] => .loop l b e
    | true :: p => .loop l (b.only p) e.blank
    | false :: p => .loop l .nil (e.only p)
  | .ex r y t e, p => match p with
    | [] => .ex r y t e
    | true :: p => .ex r y (t.only p) e.blank
    | false :: p => .ex r y .nil (e.only p)
  | .told l t, p => .told l (t.only p)
  | .tcall e t, p => .tcall e (t.only p)
  | .jn l bs t, p => .jn l bs (t.only p)
  | t, _ => t
/-- The ways that don't. -/
def Tr.but : Tr → List Bool → Tr
  | .ite b t e, p => match p with
    | [] => .nil
    | true :: p => .ite b (t.but p) e
    | false :: p => .ite b t (e.but p)
  | .call f x x' c t, p => .call f x x' c (t.but p)
  | .pcall f a r z t, p => .pcall f a r z (t.but p)
  | .rng i lo hi t, p => .rng i lo hi (t.but p)
  | .arng i lo hi t, p => .arng i lo hi (t.but p)
  | .whole i M t, p => .whole i M (t.but p)
  | .awhole i M t, p => .awhole i M (t.but p)
  | .fact b v t, p => .fact b v (t.but p)
  | .loop l b e, p => match p with
    | [] => .nil
    | true :: p => .loop l (b.but p) e
    | false :: p => .loop l b (e.but p)
  | .ex r y t e, p => match p with
    | [] => (Tr.ex r y t e).blank
    | true :: p => .ex r y (t.but p) e
    | false :: p => .ex r y t (e.but p)
  | .told l t, p => .told l (t.but p)
  | .tcall e t, p => .tcall e (t.but p)
  | .jn l bs t, p => .jn l bs (t.but p)
  | _, _ => .nil
theorem exits_blank : ∀ t : Tr, exitsOf t.blank = exitsOf t := by
  intro t
  induction t with
  | ex r y t e _ ih => simp only [Tr.blank, exitsOf, ih]
  | _ => rfl
theorem exits_only : ∀ (t : Tr) (p : List Bool), exitsOf (t.only p) = exitsOf t := by
  intro t
  induction t with
  | ex r y t e _ ih =>
    intro p
    match p with
    | [] => rfl
    | true :: p => simp only [Tr.only, exitsOf, exits_blank]
    | false :: p => simp only [Tr.only, exitsOf, ih]
  | ite b t e => intro p; match p with | [] => rfl | true :: p => rfl | false :: p => rfl
  | loop l b e => intro p; match p with | [] => rfl | true :: p => rfl | false :: p => rfl
  | _ => intro p; rfl
theorem exits_but : ∀ (t : Tr) (p : List Bool), exitsOf (t.but p) = exitsOf t := by
  intro t
  induction t with
  | ex r y t e _ ih =>
    intro p
    match p with
    | [] => simp only [Tr.but, exits_blank]
    | true :: p => simp only [Tr.but, exitsOf]
    | false :: p => simp only [Tr.but, exitsOf, ih]
  | ite b t e => intro p; match p with | [] => rfl | true :: p => rfl | false :: p => rfl
  | loop l b e => intro p; match p with | [] => rfl | true :: p => rfl | false :: p => rfl
  | _ => intro p; rfl
theorem chk_split {P : Program} {S : Facts} {lf d : Nat} : ∀ (t : Tr) (p : List Bool) {J : Job} {c : Ctx} {z : Sz}, (t.only p).chk P S lf d J c z = true → (t.but p).chk P S lf d J c z = true → t.chk P S lf d J c z = true := by
  intro t
  induction t with
  | ite b t e iht ihe =>
    intro p J c z h h'
    match p with
    | [] => exact h
    | true :: p =>
      simp only [Tr.only, Tr.but, Tr.chk, Bool.and_eq_true] at h h' ⊢
      exact ⟨h.1, iht p h.2.1 h'.2.1, h'.2.2⟩
    | false :: p =>
      simp only [Tr.only, Tr.but, Tr.chk, Bool.and_eq_true] at h h' ⊢
      exact ⟨h.1, h'.2.1, ihe p h.2.2 h'.2.2⟩
  | call f x x' ce t ih =>
    intro p J c z h h'
    simp only [Tr.only, Tr.but, Tr.chk, Bool.and_eq_true] at h h' ⊢
    exact ⟨h.1, h.2.1, h.2.2.1, h.2.2.2.1, h.2.2.2.2.1, h.2.2.2.2.2.1, ih p h.2.2.2.2.2.2 h'.2.2.2.2.2.2⟩
  | pcall f a r y t ih =>
    intro p J c z h h'
    simp only [Tr.only, Tr.but, Tr.chk, Bool.and_eq_true] at h h' ⊢
    exact ⟨h.1, h.2.1, ih p h.2.2 h'.2.2⟩
  | rng i lo hi t ih =>
    intro p J c z h h'
    simp only [Tr.only, Tr.but, Tr.chk, Bool.and_eq_true] at h h' ⊢
    exact ⟨h.1, ih p h.2 h'.2⟩
  | arng i lo hi t ih =>
    intro p J c z h h'
    simp only [Tr.only, Tr.but, Tr.chk, Bool.and_eq_true] at h h' ⊢
    exact ⟨h.1, ih p h.2 h'.2⟩
  | whole i M t ih =>
    intro p J c z h h'
    simp only [Tr.only, Tr.but, Tr.chk, Bool.and_eq_true] at h h' ⊢
    exact ⟨h.1, h.2.1, ih p h.2.2 h'.2.2⟩
  | awhole i M t ih =>
    intro p J c z h h'
    simp only [Tr.only, Tr.but, Tr.chk, Bool.and_eq_true] at h h' ⊢
    exact ⟨h.1, h.2.1, ih p h.2.2 h'.2.2⟩
  | fact b v t ih =>
    intro p J c z h h'
    simp only [Tr.only, Tr.but, Tr.chk, Bool.and_eq_true] at h h' ⊢
    exact ⟨h.1, ih p h.2 h'.2⟩
  | loop l b e ihb ihe =>
    intro p J c z h h'
    match p with
    | [] => exact h
    | true :: p =>
      simp only [Tr.only, Tr.but, Tr.chk, Bool.and_eq_true, exits_blank] at h h' ⊢
      exact ⟨h.1, ihb p h.2.1 h'.2.1, h'.2.2⟩
    | false :: p =>
      simp only [Tr.only, Tr.but, Tr.chk, Bool.and_eq_true, exits_only, exits_but] at h h' ⊢
      exact ⟨h.1, h'.2.1, ihe p h.2.2 h'.2.2⟩
  | ex r y t e iht ihe =>
    intro p J c z h h'
    match p with
    | [] => exact h
    | true :: p =>
      simp only [Tr.only, Tr.but, Tr.chk] at h h' ⊢
      cases hc : c.cur with
      | none => rw [hc] at h; cases h
      | some l =>
        rw [hc] at h h'
        simp only [Bool.and_eq_true] at h h' ⊢
        exact ⟨iht p h.1 h'.1, h'.2⟩
    | false :: p =>
      simp only [Tr.only, Tr.but, Tr.chk] at h h' ⊢
      cases hc : c.cur with
      | none => rw [hc] at h; cases h
      | some l =>
        rw [hc] at h h'
        simp only [Bool.and_eq_true] at h h' ⊢
        exact ⟨h'.1, ihe p h.2 h'.2⟩
  | told l t ih =>
    intro p J c z h h'
    simp only [Tr.only, Tr.but, Tr.chk, Bool.and_eq_true] at h h' ⊢
    exact ⟨h.1, ih p h.2 h'.2⟩
  | tcall e t ih =>
    intro p J c z h h'
    simp only [Tr.only, Tr.but, Tr.chk, Bool.and_eq_true] at h h' ⊢
    exact ⟨h.1, ih p h.2 h'.2⟩
  | jn l bs t ih =>
    intro p J c z h h'
    simp only [Tr.only, Tr.but, Tr.chk, Bool.and_eq_true] at h h' ⊢
    exact ⟨h.1, ih p h.2 h'.2⟩
  | ret x r => intro p J c z h h'; exact h
  | next x r => intro p J c z h h'; exact h
  | out i x r => intro p J c z h h'; exact h
  | nil => intro p J c z h h'; exact h
end Go.Proofs.Ytafnplkablkepaa.Ev

/-! What is told of some functions of package math where floats hold whole numbers. -/
namespace Go.Proofs.Ytafnplkablkepaa.Ev
set_option linter.unusedSimpArgs false
open Go Go.RowKit
set_option linter.unusedVariables false
theorem wh_rng {k : Int} {M : Nat} (h : -(M : Int) ≤ k ∧ k ≤ M) : k.natAbs ≤ M := by omega
theorem maxI_eq (x y : Int) : NOp.den .maxI x y = max x y := by
  simp only [NOp.den]; split <;> omega
/-- A number from 0 on. -/
def nneg (e : NE) : NE := match e with
  | .lit n => .lit (max n 0)
  | .toF k a => .toF k a
  | .fneg k a => .fneg k a
  | .fop o k a b => .fop o k a b
  | e => .bin .maxI e (.lit 0)
theorem nneg_den {ρ : Env} (e : NE) : (nneg e).den ρ = ((e.den ρ).toNat : Int) := by
  unfold nneg
  split
  · simp only [NE.den]; omega
  · simp only [NE.den, Int.toNat_natCast]
  · simp only [NE.den, Int.toNat_natCast]
  · simp only [NE.den, Int.toNat_natCast]
  · show NOp.den .maxI (NE.den ρ e) 0 = _
    rw [maxI_eq]; omega
def bitsS : Dom → List SV → Option SV
  | _, [.float .f64 e] => some (.int .u64 (nneg e))
  | _, _ => none
def frombitsS : Dom → List SV → Option SV
  | _, [.int .u64 e] => some (.float .f64 e)
  | _, _ => none
def truncS : Dom → List SV → Option SV
  | D, [.float .f64 e] => if (wh D e).isSome then some (.float .f64 e) else none
  | _, _ => none
/-- The size of a number. -/
def absN (n : NE) : NE := match n with
  | .lit x => .lit x.natAbs
  | n => .bin .maxI n (mkSubI (.lit 0) n)
theorem absN_den {ρ : Env} (n : NE) : (absN n).den ρ = ((n.den ρ).natAbs : Int) := by
  unfold absN
  split
  · rfl
  · show NOp.den .maxI (NE.den ρ n) (NE.den ρ (mkSubI (.lit 0) n)) = _
    rw [maxI_eq, mkSubI_den]; simp only [NE.den]; omega
def absS : Dom → List SV → Option SV
  | D, [.float .f64 e] => (wh D e).map fun x => .float .f64 (.toF .f64 (absN x.1))
  | _, _ => none
def wholeS : Dom → List SV → Option SV
  | D, [.float .f64 e] => match wh D e with
    | some x => if Nat.ble x.2 4503599627370496 then some (.bool (.lit true)) else none
    | none => none
  | _, _ => none
theorem bitsS_ok {P : Program} {f : FuncId} (h : ∀ b w, (callFunc f #[.float .f64 b]).run P w = .ok (.value (.int .u64 b)) w) {ρ : Env} {D : Dom} {args : List SV} {v : SV} (hv : bitsS D args = some v) (w : World) : (callFunc f (denL ρ σ0 args).toArray).run P w = .ok (.value (v.den ρ σ0)) w := by
  unfold bitsS at hv
  split at hv
  · cases hv
    simp only [denL, SV.den, nneg_den]
    exact h _ w
  · cases hv
theorem frombitsS_ok {P : Program} {f : FuncId} (h : ∀ (b : Int) w, (callFunc f #[.int .u64 b]).run P w = .ok (.value (.float .f64 b.toNat)) w) {ρ : Env} {D : Dom} {args : List SV} {v : SV} (hv : frombitsS D args = some v) (w : World) : (callFunc f (denL ρ σ0 args).toArray).run P w = .ok (.value (v.den ρ σ0)) w := by
  unfold frombitsS at hv
  split at hv
  · cases hv
    simp only [denL, SV.den]
    exact h _ w
  · cases hv
theorem truncS_ok {P : Program} {f : FuncId} (h : ∀ (b : Nat) (k : Int), Rp b k → InF k → ∀ w, (callFunc f #[.float .f64 b]).run P w = .ok (.value (.float .f64 b)) w) {ρ : Env} {D : Dom} (hD : D.Holds ρ) {args : List SV} {v : SV} (hv : truncS D args = some v) (w : World) : (callFunc f (denL ρ σ0 args).toArray).run P w = .ok (.value (v.den ρ σ0)) w := by
  unfold truncS at hv
  split at hv
  · split at hv <;> cases hv
    rename_i hs
    obtain ⟨x, hx⟩ := Option.isSome_iff_exists.1 hs
    have := wh_ok hD hx
    simp only [denL, SV.den]
    exact h _ _ this.rp this.inF w
  · cases hv
theorem absS_ok {P : Program} {f : FuncId} (h : ∀ (b : Nat) (k : Int), Rp b k → InF k → ∀ w, Calls P f #[.float .f64 b] w fun e w' => e = .returned (.float .f64 (fi (k.natAbs : Int))) ∧ Below w.heap.size w w') {ρ : Env} {D : Dom} (hD : D.Holds ρ) {args : List SV} {v : SV} (hv : absS D args = some v) (w : World) :
    Calls P f (denL ρ σ0 args).toArray w fun e w' => e = .returned (v.den ρ σ0) ∧ Below w.heap.size w w' := by
  unfold absS at hv
  split at hv
  · obtain ⟨x, hx, rfl⟩ := Option.map_eq_some_iff.1 hv
    have := wh_ok hD hx
    simp only [denL, SV.den, NE.den, absN_den, Int.toNat_natCast]
    exact h _ _ this.rp this.inF w
  · cases hv
theorem wholeS_ok {P : Program} {f : FuncId} (h : ∀ (b : Nat) (k : Int), Rp b k → k.natAbs ≤ 4503599627370496 → ∀ w, Calls P f #[.float .f64 b] w fun e w' => e = .returned (.bool true) ∧ Below w.heap.size w w') {ρ : Env} {D : Dom} (hD : D.Holds ρ) {args : List SV} {v : SV} (hv : wholeS D args = some v) (w : World) :
    Calls P f (denL ρ σ0 args).toArray w fun e w' => e = .returned (v.den ρ σ0) ∧ Below w.heap.size w w' := by
  unfold wholeS at hv
  split at hv
  · split at hv
    · rename_i x hx
      split at hv <;> cases hv
      rename_i hs
      have := wh_ok hD hx
      have hle := Nat.le_of_ble_eq_true hs
      simp only [denL, SV.den, BE.den]
      exact h _ _ this.rp (Nat.le_trans this.le hle) w
    · cases hv
  · cases hv
theorem exN_of : ∀ {l : List Int} {k : Nat} {K : List Int → Prop}, l.length = k → K l → exN k K
  | [], 0, K, _, h => h
  | x :: l, k + 1, K, hl, h => ⟨x, exN_of (l := l) (by simpa using hl) h⟩
  | [], k + 1, K, hl, h => by simp at hl
  | x :: l, 0, K, hl, h => by simp at hl
theorem exB_of : ∀ {l : List Bool} {k : Nat} {K : List Bool → Prop}, l.length = k → K l → exB k K
  | [], 0, K, _, h => h
  | x :: l, k + 1, K, hl, h => ⟨x, exB_of (l := l) (by simpa using hl) h⟩
  | [], k + 1, K, hl, h => by simp at hl
  | x :: l, 0, K, hl, h => by simp at hl
theorem exA_of : ∀ {l : List (Int → Int)} {k : Nat} {K : List (Int → Int) → Prop}, l.length = k → K l → exA k K
  | [], 0, K, _, h => h
  | x :: l, k + 1, K, hl, h => ⟨x, exA_of (l := l) (by simpa using hl) h⟩
  | [], k + 1, K, hl, h => by simp at hl
  | x :: l, 0, K, hl, h => by simp at hl
theorem exV_of {z : Sz} {K : D3 → Prop} (h : ∃ d : D3, d.sz = z ∧ K d) : exV z K := by
  obtain ⟨d, rfl, h⟩ := h
  exact exN_of (l := d.1) rfl (exB_of (l := d.2.1) rfl (exA_of (l := d.2.2) rfl h))
/-- A contract that sees no rows. -/
theorem HRel.none {P : Program} {ρ : Env} {σ : Sg} {w : World} : HRel P ρ σ [] w := ⟨fun b x h => by simp at h, fun b b' x x' h => by simp at h⟩
theorem Post.below {P : Program} {ρ : Env} {σ σ' : Sg} {H' : Hp} {w w' : World} (h : Post P ρ σ σ' [] H' [] w w') : Below w.heap.size w w' :=
  ⟨h.os, h.tape, h.out, h.size, fun k hk => h.frame k hk fun b hb => by cases hb⟩
theorem spec_calls {P : Program} {F : Sig} {V : Vs} {xs : List Int} {bs : List Bool} {rs : List (Int → Int)} (h : Spec P F V xs bs rs) (h0 : F.H = []) (hi : insideL 0 F.args = true) (ho : F.r.inside 0 = true) (w : World) :
    Calls P F.f (denL (envV V) σ0 F.args).toArray w fun e w' => e = .returned (F.r.den (envV (V.add xs bs rs)) σ0) ∧ Below w.heap.size w w' := by
  have hh := h σ0 w (by rw [h0]; exact .none)
  refine hh.mono ?_
  rintro e w' ⟨σ', hp, rfl⟩
  rw [h0] at hp
  exact ⟨congrArg _ (SV.den_agree (n := 0) (fun b hb => by omega) _ ho), hp.below⟩
end Go.Proofs.Ytafnplkablkepaa.Ev
