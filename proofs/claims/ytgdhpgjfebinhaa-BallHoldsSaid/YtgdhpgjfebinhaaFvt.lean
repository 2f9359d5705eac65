/- The symbolic machine once more, with its slots in a tree: quicker for the kernel, and the same. -/
import Derived.Test.YtgdhpgjfebinhaaFvq
namespace Go.Proofs.Ytgdhpgjfebinhaa.Ev
set_option linter.unusedSimpArgs false
open Go Go.RowKit
set_option linter.unusedVariables false
set_option linter.unusedSectionVars false
variable {P : Program} {ρ : Env} {Γ : Facts}
variable {ds : List Deferred}

inductive Tm where
  | leaf
  | node (v : SV) (l r : Tm)
  deriving Inhabited
def Tm.get : Tm → Nat → SV
  | .leaf, _ => uS
  | .node v l r, n => match Nat.beq n 0 with
    | true => v
    | false => match Nat.beq (n % 2) 1 with
      | true => l.get (n / 2)
      | false => r.get (n / 2 - 1)
def Tm.put : Nat → Tm → Nat → SV → Tm
  | 0, t, _, _ => t
  | f + 1, .leaf, n, x => match Nat.beq n 0 with
    | true => .node x .leaf .leaf
    | false => match Nat.beq (n % 2) 1 with
      | true => .node uS (Tm.put f .leaf (n / 2) x) .leaf
      | false => .node uS .leaf (Tm.put f .leaf (n / 2 - 1) x)
  | f + 1, .node v l r, n, x => match Nat.beq n 0 with
    | true => .node x l r
    | false => match Nat.beq (n % 2) 1 with
      | true => .node v (Tm.put f l (n / 2) x) r
      | false => .node v l (Tm.put f r (n / 2 - 1) x)
theorem Tm.get_leaf (n : Nat) : Tm.leaf.get n = uS := rfl
theorem Tm.get_node (v : SV) (l r : Tm) (n : Nat) : (Tm.node v l r).get n = if n = 0 then v else if n % 2 = 1 then l.get (n / 2) else r.get (n / 2 - 1) := by
  conv => lhs; unfold Tm.get
  by_cases h : n = 0
  · subst h; rfl
  · have h1 : Nat.beq n 0 = false := by
      cases e : Nat.beq n 0 with
      | false => rfl
      | true => exact absurd (Nat.eq_of_beq_eq_true e) h
    rw [h1, if_neg h]
    by_cases h2 : n % 2 = 1
    · rw [h2]; simp
    · have h3 : Nat.beq (n % 2) 1 = false := by
        cases e : Nat.beq (n % 2) 1 with
        | false => rfl
        | true => exact absurd (Nat.eq_of_beq_eq_true e) h2
      rw [h3, if_neg h2]
theorem beq_true (a : Nat) : Nat.beq a a = true := Nat.beq_refl a
theorem beq_false {a b : Nat} (h : a ≠ b) : Nat.beq a b = false := by
  cases e : Nat.beq a b with
  | false => rfl
  | true => exact absurd (Nat.eq_of_beq_eq_true e) h
theorem Tm.get_put : ∀ (f : Nat) (t : Tm) (n : Nat) (x : SV) (i : Nat), n < 2 ^ f → (Tm.put (f + 1) t n x).get i = if i = n then x else t.get i
  | f, .leaf, n, x, i, h => by
    unfold Tm.put
    by_cases h0 : n = 0
    · subst h0
      simp only [beq_true, Tm.get_node, Tm.get_leaf]
      split <;> simp
    · simp only [beq_false h0]
      by_cases h1 : n % 2 = 1
      · simp only [h1, beq_true, Tm.get_node, Tm.get_leaf]
        cases f with
        | zero => omega
        | succ f =>
          rw [Nat.pow_succ] at h
          rw [Tm.get_put f .leaf (n / 2) x (i / 2) (by omega), Tm.get_leaf]
          by_cases e0 : i = 0
          · subst e0; rw [if_pos rfl, if_neg (by omega)]
          · rw [if_neg e0]
            by_cases e1 : i % 2 = 1
            · rw [if_pos e1]
              by_cases e2 : i = n
              · subst e2; rw [if_pos rfl, if_pos rfl]
              · rw [if_neg (by omega), if_neg e2]
            · rw [if_neg e1, if_neg (by omega)]
      · simp only [beq_false h1, Tm.get_node, Tm.get_leaf]
        cases f with
        | zero => omega
        | succ f =>
          rw [Nat.pow_succ] at h
          rw [Tm.get_put f .leaf (n / 2 - 1) x (i / 2 - 1) (by omega), Tm.get_leaf]
          by_cases e0 : i = 0
          · subst e0; rw [if_pos rfl, if_neg (by omega)]
          · rw [if_neg e0]
            by_cases e1 : i % 2 = 1
            · rw [if_pos e1, if_neg (by omega)]
            · rw [if_neg e1]
              by_cases e2 : i = n
              · subst e2; rw [if_pos rfl, if_pos rfl]
              · rw [if_neg (by omega), if_neg e2]
  | f, .node v l r, n, x, i, h => by
    unfold Tm.put
    by_cases h0 : n = 0
    · subst h0
      simp only [beq_true, Tm.get_node]
      split <;> simp
    · simp only [beq_false h0]
      by_cases h1 : n % 2 = 1
      · simp only [h1, beq_true, Tm.get_node]
        cases f with
        | zero => omega
        | succ f =>
          rw [Nat.pow_succ] at h
          rw [Tm.get_put f l (n / 2) x (i / 2) (by omega)]
          by_cases e0 : i = 0
          · subst e0; rw [if_pos rfl, if_neg (by omega), if_pos rfl]
          · rw [if_neg e0, if_neg e0]
            by_cases e1 : i % 2 = 1
            · rw [if_pos e1, if_pos e1]
              by_cases e2 : i = n
              · subst e2; rw [if_pos rfl, if_pos rfl]
              · rw [if_neg (by omega), if_neg e2]
            · rw [if_neg e1, if_neg e1, if_neg (by omega)]
      · simp only [beq_false h1, Tm.get_node]
        cases f with
        | zero => omega
        | succ f =>
          rw [Nat.pow_succ] at h
          rw [Tm.get_put f r (n / 2 - 1) x (i / 2 - 1) (by omega)]
          by_cases e0 : i = 0
          · subst e0; rw [if_pos rfl, if_neg (by omega), if_pos rfl]
          · rw [if_neg e0, if_neg e0]
            by_cases e1 : i % 2 = 1
            · rw [if_pos e1, if_pos e1, if_neg (by omega)]
            · rw [if_neg e1, if_neg e1]
              by_cases e2 : i = n
              · subst e2; rw [if_pos rfl, if_pos rfl]
              · rw [if_neg (by omega), if_neg e2]

/-- Slots in a tree. -/
structure Sl where
  t : Tm
  n : Nat
  deriving Inhabited
def Sl.toL (T : Sl) : List SV := (List.range T.n).map T.t.get
def Sl.get (T : Sl) (i : Nat) : SV := match Nat.blt i T.n with
  | true => T.t.get i
  | false => uS
def putAll : Nat → List SV → Tm → Tm
  | _, [], t => t
  | i, v :: l, t => putAll (i + 1) l (Tm.put 40 t i v)
def Sl.ofL (l : List SV) : Sl := ⟨putAll 0 l .leaf, l.length⟩
theorem putAll_get : ∀ (l : List SV) (i : Nat) (t : Tm) (k : Nat), i + l.length ≤ 2 ^ 39 → (putAll i l t).get k = if i ≤ k ∧ k < i + l.length then l.getD (k - i) uS else t.get k
  | [], i, t, k, _ => by simp [putAll]; intro h h'; omega
  | v :: l, i, t, k, h => by
    simp only [List.length_cons] at h ⊢
    simp only [putAll]
    rw [putAll_get l (i + 1) _ k (by omega), Tm.get_put 39 t i v k (by omega)]
    by_cases e : k = i
    · subst e
      rw [if_neg (by omega), if_pos rfl, if_pos (by omega)]; simp
    · by_cases e2 : i + 1 ≤ k ∧ k < i + 1 + l.length
      · rw [if_pos e2, if_pos (by omega), show k - i = (k - (i + 1)) + 1 by omega]; simp
      · rw [if_neg e2, if_neg e, if_neg (by omega)]
theorem Sl.ofL_toL {l : List SV} (h : l.length ≤ 2 ^ 39) : (Sl.ofL l).toL = l := by
  apply List.ext_getElem?
  intro k
  simp only [Sl.toL, Sl.ofL, List.getElem?_map, List.getElem?_range]
  by_cases hk : k < l.length
  · rw [List.getElem?_range hk]
    simp only [Option.map_some]
    rw [putAll_get l 0 .leaf k (by omega), if_pos (show 0 ≤ k ∧ k < 0 + l.length by omega), List.getD_eq_getElem?_getD, Nat.sub_zero, List.getElem?_eq_getElem hk]; rfl
  · rw [List.getElem?_eq_none (l := List.range l.length) (by rw [List.length_range]; omega), List.getElem?_eq_none (l := l) (by omega)]; rfl
theorem Sl.length (T : Sl) : T.toL.length = T.n := by simp [Sl.toL]
theorem Sl.getElem? (T : Sl) (i : Nat) : T.toL[i]? = if i < T.n then some (T.t.get i) else none := by
  simp only [Sl.toL, List.getElem?_map]
  by_cases h : i < T.n
  · rw [List.getElem?_range h, if_pos h]; rfl
  · rw [List.getElem?_eq_none (by simp; omega), if_neg h]; rfl
theorem Sl.get_eq (T : Sl) (i : Nat) : T.get i = T.toL.getD i uS := by
  rw [List.getD_eq_getElem?_getD, Sl.getElem?]
  unfold Sl.get
  cases h : Nat.blt i T.n with
  | true => rw [if_pos (Nat.blt_eq.mp h)]; rfl
  | false => rw [if_neg (fun h' => by rw [Nat.blt_eq.mpr h'] at h; cases h)]; rfl
def Sl.put (T : Sl) (d : Nat) (v : SV) : Sl := match Nat.blt d T.n with
  | true => (match Nat.ble T.n 549755813888 with
    | true => ⟨Tm.put 40 T.t d v, T.n⟩
    | false => T)
  | false => T
def Sl.small (T : Sl) : Bool := Nat.ble T.n 549755813888
theorem Sl.put_n (T : Sl) (d : Nat) (v : SV) : (T.put d v).n = T.n := by
  unfold Sl.put; split <;> (try split) <;> rfl
theorem Sl.put_small {T : Sl} (h : T.small = true) (d : Nat) (v : SV) : (T.put d v).small = true := by
  unfold Sl.small at *; rw [Sl.put_n]; exact h
theorem Sl.put_toL {T : Sl} (hs : T.small = true) (d : Nat) (v : SV) : (T.put d v).toL = T.toL.set d v := by
  apply List.ext_getElem?
  intro k
  rw [Sl.getElem?, Sl.put_n]
  have hle := Nat.le_of_ble_eq_true hs
  by_cases hd : d < T.n
  · have e : (T.put d v).t = Tm.put 40 T.t d v := by
      unfold Sl.put; rw [Nat.blt_eq.mpr hd]; unfold Sl.small at hs; simp [hs]
    rw [e, Tm.get_put 39 T.t d v k (by omega)]
    by_cases hk : k = d
    · subst hk; rw [if_pos hd, if_pos rfl, List.getElem?_set_self (by rw [Sl.length]; exact hd)]
    · rw [if_neg hk, List.getElem?_set_ne (Ne.symm hk), Sl.getElem?]
  · have e : T.put d v = T := by
      unfold Sl.put
      cases h : Nat.blt d T.n with
      | true => exact absurd (Nat.blt_eq.mp h) hd
      | false => rfl
    rw [e, List.set_eq_of_length_le (by rw [Sl.length]; omega), Sl.getElem?]

def stepS (T : Sl) (dst : Option Nat) (v : SV) : Sl := match dst with
  | some d => T.put d v
  | none => T
theorem stepS_toL {T : Sl} (hs : T.small = true) (dst : Option Nat) (v : SV) : (stepS T dst v).toL = stepT T.toL dst v := by
  cases dst with
  | none => rfl
  | some d => exact Sl.put_toL hs d v
theorem stepS_small {T : Sl} (hs : T.small = true) (dst : Option Nat) (v : SV) : (stepS T dst v).small = true := by
  cases dst with
  | none => exact hs
  | some d => exact Sl.put_small hs d v

def evOS (T : Sl) : Operand → Option SV
  | .tmp t => (match T.get t with
    | .any _ => none
    | v => some v)
  | .const v => (ofVal 64 v).map normF
  | .func f => some (.func (.func f) [] [])
  | .global _ => none
theorem evOS_eq (T : Sl) (x : Operand) : evOS T x = evO T.toL x := by
  cases x <;> simp only [evOS, evO, Sl.get_eq]
  rfl
def evOsS (T : Sl) : List Operand → Option (List SV)
  | [] => some []
  | x :: l => match evOS T x, evOsS T l with
    | some v, some r => some (v :: r)
    | _, _ => none
theorem evOsS_eq (T : Sl) : ∀ l : List Operand, evOsS T l = evOs T.toL l
  | [] => rfl
  | x :: l => by simp only [evOsS, evOs, evOS_eq, evOsS_eq T l]; rfl
def evPartsS (T : Sl) : List (Nat × Operand) → Option (List (Nat × SV))
  | [] => some []
  | (i, x) :: l => match evOS T x, evPartsS T l with
    | some v, some r => some ((i, v) :: r)
    | _, _ => none
theorem evPartsS_eq (T : Sl) : ∀ l : List (Nat × Operand), evPartsS T l = evParts T.toL l
  | [] => rfl
  | (i, x) :: l => by simp only [evPartsS, evParts, evOS_eq, evPartsS_eq T l]; rfl
def evOptS (T : Sl) : Option Operand → Option (Option SV)
  | none => some none
  | some x => (evOS T x).map some
theorem evOptS_eq (T : Sl) : ∀ x : Option Operand, evOptS T x = evOpt T.toL x
  | none => rfl
  | some x => by simp only [evOptS, evOpt, evOS_eq]
def evGuardS (Γ : Facts) (ops : Array Oper) (T : Sl) : Option (Nat × Bool) → Option Bool
  | none => some true
  | some (j, want) => match (ops[j]?).bind (·.dst) with
    | none => some false
    | some t => match (if Nat.blt t T.n then some (T.t.get t) else none) with
      | some (.bool b) => (res Γ b).map (· == want)
      | some (.any _) => none
      | _ => some false
theorem evGuardS_eq (Γ : Facts) (ops : Array Oper) (T : Sl) (g : Option (Nat × Bool)) : evGuardS Γ ops T g = evGuard Γ ops T.toL g := by
  cases g with
  | none => rfl
  | some p =>
    obtain ⟨j, w⟩ := p
    simp only [evGuardS, evGuard]
    generalize (ops[j]?).bind (·.dst) = q
    cases q with
    | none => rfl
    | some t =>
      simp only
      rw [Sl.getElem?]
      have : (if Nat.blt t T.n = true then some (T.t.get t) else none) = (if t < T.n then some (T.t.get t) else none) := by
        by_cases h : t < T.n
        · rw [if_pos (Nat.blt_eq.mpr h), if_pos h]
        · rw [if_neg (fun h' => h (Nat.blt_eq.mp h')), if_neg h]
      rw [this]; rfl
def evPureS (P : Program) (Γ : Facts) (T : Sl) (o : Oper) : Option SV := match o.op with
  | .move x => evOS T x
  | .assign x => evOS T x
  | .pick c x y => (match evOS T c with
    | some (.bool c) => (match res Γ c with
      | some true => evOS T x
      | some false => evOS T y
      | none => none)
    | _ => none)
  | .binOp op t x y _ => (evOS T x).bind fun X => (evOS T y).bind fun Y => evBin P Γ op t x y X Y
  | .unOp op _ x => (evOS T x).bind fun X => evUn Γ op X
  | .convert s d x => (evOS T x).bind fun X => evConv P Γ s d X
  | .field t x f => (evOS T x).bind fun X => evFieldV P t X f
  | .index t x i => (evOS T x).bind fun X => (evOS T i).bind fun I => evIndex P t X I
  | .extract x i => (evOS T x).bind fun X => evExtract X i
  | _ => none
theorem evPureS_eq (P : Program) (Γ : Facts) (T : Sl) (o : Oper) : evPureS P Γ T o = evPure P Γ T.toL o := by
  obtain ⟨dst, op, ty, pos, after, guard⟩ := o
  cases op <;> simp only [evPureS, evPure, evOS_eq] <;> rfl
def evOpS0 (P : Program) (Γ : Facts) (call : CallF) (T : Sl) (H : Hp) (o : Oper) : Option Out :=
  let u (v : Option SV) : Option Out := v.map fun v => (v, H, [])
  match o.op with
  | .move x => u (evOS T x)
  | .assign x => u (evOS T x)
  | .pick c x y => (match evOS T c with
    | some (.bool c) => (match res Γ c with
      | some true => u (evOS T x)
      | some false => u (evOS T y)
      | none => none)
    | _ => none)
  | .alloc t => (embedZ P t).map fun cs => (.ptr (some ⟨H.length, 0, none⟩), newB cs t H, [])
  | .box t x => (evOS T x).map fun v => (.ptr (some ⟨H.length, 0, none⟩), newB v.cells t H, [])
  | .build t ps => u ((evPartsS T ps.toList).bind fun l => (evBuild P t l).map .agg)
  | .buildSlice t n ps => (evPartsS T ps.toList).bind fun l => (evBuildSlice P t n l).map fun r => (.slice (some ⟨H.length, 0, none⟩) n n, newB r.2 r.1 H, [])
  | .load t x => u ((evAddr (evOS T x)).bind fun a => evLoad P t a H)
  | .store t x y => (evAddr (evOS T x)).bind fun a => (evOS T y).bind fun v => (evStore P t a v H).map fun r => (uS, r.1, r.2)
  | .nilCheck x => (match evOS T x with
    | some (.ptr (some a)) => some (.ptr (some a), H, [])
    | some (.func (.func f) fs cs) => some (.func (.func f) fs cs, H, [])
    | some (.yld b) => some (.yld b, H, [])
    | some (.iface t v) => some (.iface t v, H, [])
    | _ => none)
  | .makeInterface t x => if P.concrete t then u ((evOS T x).map (.iface t)) else none
  | .binOp op t x y _ => u ((evOS T x).bind fun X => (evOS T y).bind fun Y => evBin P Γ op t x y X Y)
  | .unOp op _ x => u ((evOS T x).bind fun X => evUn Γ op X)
  | .convert s d x => u ((evOS T x).bind fun X => evConv P Γ s d X)
  | .makeFunc fn f c => u ((evOsS T f.toList).bind fun f => (evOsS T c.toList).map fun c => .func fn f c)
  | .makeSlice t l c => (evOS T l).bind fun l => (evOS T c).bind fun c => (evMakeSlice P t l c).map fun r => (.slice (some ⟨H.length, 0, none⟩) r.2.2.1 r.2.2.2, newB r.2.1 r.1 H, [])
  | .slice t x lo hi none => u ((evOS T x).bind fun X => (evOptS T lo).bind fun lo => (evOptS T hi).bind fun hi => evSlice P t X lo hi)
  | .fieldAddr s x f => u ((evAddr (evOS T x)).bind fun a => (evField P s a f).map fun a => .ptr (some a))
  | .field t x f => u ((evOS T x).bind fun X => evFieldV P t X f)
  | .indexAddr t x i => u ((evOS T x).bind fun X => (evOS T i).bind fun I => (evIndexAt P t X I).map fun a => .ptr (some a))
  | .index t x i => u ((evOS T x).bind fun X => (evOS T i).bind fun I => evIndex P t X I)
  | .extract x i => u ((evOS T x).bind fun X => evExtract X i)
  | .call c => (match c.callee with
    | .value f => (match evOS T f with
      | some (.func (.func g) fs cs) => if Nat.beq g yieldF then none else (evOsS T c.args.toList).bind fun args => call g (fs ++ args ++ cs) H
      | some (.yld b) => (evOsS T c.args.toList).bind fun args => call yieldF (.yld b :: args) H
      | _ => none)
    | .builtin b => (evOsS T c.args.toList).bind fun args => evBi P Γ b c.argTypes args H
    | .invoke x name => (match evOS T x with
      | some (.iface t v) => (evOsS T c.args.toList).bind fun args => (evMethod P t name).bind fun m => if Nat.beq m yieldF then none else call m (v :: args) H
      | _ => none))
  | _ => none
theorem evOpS0_eq (P : Program) (Γ : Facts) (call : CallF) (T : Sl) (H : Hp) (o : Oper) : evOpS0 P Γ call T H o = evOp0 P Γ call T.toL H o := by
  obtain ⟨dst, op, ty, pos, after, guard⟩ := o
  cases op
  case slice t x lo hi mx => cases mx <;> simp only [evOpS0, evOp0, evOS_eq, evOptS_eq]
  all_goals simp only [evOpS0, evOp0, evOS_eq, evOsS_eq, evPartsS_eq]
  all_goals rfl
def evOpRS (P : Program) (Γ : Facts) (T : Sl) (H : Hp) (o : Oper) : Option Out :=
  let u (v : Option SV) : Option Out := v.map fun v => (v, H, [])
  match o.op with
  | .load t x => (match evOS T x with
    | some (.eptr b i st c) => u (evLoadR P Γ t b i st c H)
    | _ => none)
  | .store t x y => (match evOS T x with
    | some (.eptr b i st c) => (evOS T y).bind fun v => (evStoreR P Γ t b i st c v H).map fun r => (uS, r.1, r.2)
    | _ => none)
  | .nilCheck x => (match evOS T x with
    | some (.eptr b i st c) => some (.eptr b i st c, H, [])
    | _ => none)
  | .fieldAddr s x f => u ((evOS T x).bind fun X => evFieldR P s X f)
  | .indexAddr t x i => u ((evOS T x).bind fun X => (evOS T i).bind fun I => match evIndexR P Γ t X I H with
    | some v => some v
    | none => match evIndexV P t X I H with
      | some v => some v
      | none => evIndexP P Γ t X I H)
  | .index t x i => u ((evOS T x).bind fun X => (evOS T i).bind fun I => evIndexS P Γ t X I)
  | .binOp op t x y _ => u ((evOS T x).bind fun X => (evOS T y).bind fun Y => evNil P Γ op t X Y H)
  | .convert s d x => (evOS T x).bind fun X => evBytes P s d X H
  | .slice t x lo hi mx => (evOS T x).bind fun X => (evOptS T lo).bind fun lo => (evOptS T hi).bind fun hi => (evOptS T mx).bind fun mx => (match mx with
    | none => u (match evSliceV P t X lo hi H with
      | some v => some v
      | none => evSliceR P Γ t X lo hi H)
    | some m => evSlice3 P t X lo hi (some m) H)
  | .call c => (match c.callee with
    | .builtin b => (evOsS T c.args.toList).bind fun args => (match b, args with
      | .append, args => evAppendR P Γ c.argTypes args H
      | .len, [x] => (c.argTypes[0]?).bind fun t => (evLenR P Γ t x H).map fun n => (.int .i64 n, H, [])
      | _, _ => none)
    | _ => none)
  | _ => none
theorem evOpRS_eq (P : Program) (Γ : Facts) (T : Sl) (H : Hp) (o : Oper) : evOpRS P Γ T H o = evOpR P Γ T.toL H o := by
  obtain ⟨dst, op, ty, pos, after, guard⟩ := o
  cases op <;> simp only [evOpRS, evOpR, evOS_eq, evOsS_eq, evOptS_eq] <;> rfl
def evOpS (P : Program) (Γ : Facts) (call : CallF) (T : Sl) (H : Hp) (o : Oper) : Option Out := match evOpS0 P Γ call T H o with
  | some r => some r
  | none => evOpRS P Γ T H o
theorem evOpS_eq (P : Program) (Γ : Facts) (call : CallF) (T : Sl) (H : Hp) (o : Oper) : evOpS P Γ call T H o = evOp P Γ call T.toL H o := by
  simp only [evOpS, evOp, evOpS0_eq, evOpRS_eq]; rfl
def opTryS (P : Program) (Γ : Facts) (call : CallF) (T : Sl) (H : Hp) (o : Oper) (N M : List Nat) : Option (List Nat × Out) := match evOpS P Γ call T (maskF M 0 H) o with
  | some (v, Hm, W) => if trOk H Hm M N W v = true then some (M, v, Hm, W) else none
  | none => none
def seesS (T : Sl) (o : Oper) (N : List Nat) : List Nat := match o.op with
  | .call _ => N
  | .load _ a => (match evOS T a with | some v => v.ids | none => N)
  | .store _ a _ => (match evOS T a with | some v => v.ids | none => N)
  | .fieldAddr .. | .indexAddr .. | .nilCheck _ | .slice .. | .move _ | .assign _ | .build .. | .makeFunc .. | .binOp .. | .unOp .. | .convert .. | .field .. | .index .. | .extract .. | .makeInterface .. | .pick .. => []
  | _ => N
def opMS (P : Program) (Γ : Facts) (call : CallF) (T : Sl) (H : Hp) (o : Oper) (N : List Nat) : Option (List Nat × Out) := match opTryS P Γ call T H o N ((seesS T o N).filter fun b => decide (b < H.length)) with
  | some r => some r
  | none => if (seesS T o N).length = N.length then none else opTryS P Γ call T H o N N
theorem opTryS_eq (P : Program) (Γ : Facts) (call : CallF) (T : Sl) (H : Hp) (o : Oper) (N M : List Nat) : opTryS P Γ call T H o N M = opTry P Γ call T.toL H o N M := by
  simp only [opTryS, opTry, evOpS_eq]; rfl
theorem seesS_eq (T : Sl) (o : Oper) (N : List Nat) : seesS T o N = sees T.toL o N := by
  obtain ⟨dst, op, ty, pos, after, guard⟩ := o
  cases op <;> simp only [seesS, sees, evOS_eq] <;> rfl
theorem opMS_eq (P : Program) (Γ : Facts) (call : CallF) (T : Sl) (H : Hp) (o : Oper) (N : List Nat) : opMS P Γ call T H o N = opM P Γ call T.toL H o N := by
  simp only [opMS, opM, opTryS_eq, seesS_eq]; rfl
def evTrS (P : Program) (Γ : Facts) (call : CallF) (ops : Array Oper) : List Oper → Sl → Hp → Option (List TrI × Sl × Hp)
  | [], T, H => some ([], T, H)
  | o :: l, T, H => match evGuardS Γ ops T o.guard with
    | some true => (match (match evPureS P Γ T o with | some v => if v.inside 0 then some v else none | none => none) with
      | some v => (match evTrS P Γ call ops l (stepS T o.dst v) H with
          | some (L, T2, H2) => some (⟨T.toL, H, true, [], [], v, maskF [] 0 H, [], true⟩ :: L, T2, H2)
          | none => none)
      | none =>
        let N := (reach H 64 (idsL ((evOsS T o.op.operands.toList).getD [])) []).filter fun b => decide (b < H.length)
        (match opMS P Γ call T H o N with
        | some (M, v, Hm, W) => (match evTrS P Γ call ops l (stepS T o.dst v) (mergeF W 0 H Hm) with
            | some (L, T2, H2) => some (⟨T.toL, H, true, M, N, v, Hm, W, W.isEmpty && Nat.beq H.length Hm.length⟩ :: L, T2, H2)
            | none => none)
        | none => none))
    | some false => (match evTrS P Γ call ops l (stepS T o.dst uS) H with
          | some (L, T2, H2) => some (⟨T.toL, H, false, [], [], uS, H, [], true⟩ :: L, T2, H2)
          | none => none)
    | none => none
def toR3 {α β : Type} : α × Sl × β → α × List SV × β := fun r => (r.1, r.2.1.toL, r.2.2)
theorem evTrS_eq (P : Program) (Γ : Facts) (call : CallF) (ops : Array Oper) : ∀ (l : List Oper) (T : Sl) (H : Hp), T.small = true → (evTrS P Γ call ops l T H).map toR3 = evTr P Γ call ops l T.toL H ∧ ∀ r, evTrS P Γ call ops l T H = some r → r.2.1.small = true
  | [], T, H, hs => ⟨rfl, fun r h => by simp only [evTrS] at h; cases h; exact hs⟩
  | o :: l, T, H, hs => by
    have ih := fun (T' : Sl) H' (hs' : T'.small = true) => evTrS_eq P Γ call ops l T' H' hs'
    simp only [evTrS, evTr, evGuardS_eq, evPureS_eq, evOsS_eq, opMS_eq]
    have fin : ∀ (T1 : Sl) (T1' : List SV) (H1 : Hp) (x : TrI), T1.small = true → T1.toL = T1' →
        (Option.map toR3 (match evTrS P Γ call ops l T1 H1 with | some (L, T2, H2) => some (x :: L, T2, H2) | none => none) = (match evTr P Γ call ops l T1' H1 with | some (L, T2, H2) => some (x :: L, T2, H2) | none => none)) ∧
        ∀ r, (match evTrS P Γ call ops l T1 H1 with | some (L, T2, H2) => some (x :: L, T2, H2) | none => none) = some r → r.2.1.small = true := by
      intro T1 T1' H1 x h1 h2
      obtain ⟨i1, i2⟩ := ih T1 H1 h1
      rw [← h2, ← i1]
      cases h : evTrS P Γ call ops l T1 H1 with
      | none => exact ⟨rfl, fun r h => by cases h⟩
      | some q => exact ⟨rfl, fun r h' => by cases h'; exact i2 q h⟩
    cases hg : evGuard Γ ops T.toL o.guard with
    | none => exact ⟨rfl, fun r h => by cases h⟩
    | some g =>
      cases g with
      | false => exact fin _ _ _ _ (stepS_small hs _ _) (stepS_toL hs _ _)
      | true =>
        simp only
        have hp : (match evPure P Γ T.toL o with | some v => if v.inside 0 = true then some v else none | none => none) = (evPure P Γ T.toL o).bind fun v => if v.inside 0 = true then some v else none := by
          cases evPure P Γ T.toL o <;> rfl
        cases hv : (evPure P Γ T.toL o).bind fun v => if v.inside 0 = true then some v else none with
        | some v =>
          rw [hv] at hp
          have := fin _ _ H ⟨T.toL, H, true, [], [], v, maskF [] 0 H, [], true⟩ (stepS_small hs o.dst v) (stepS_toL hs o.dst v)
          cases he : evPure P Γ T.toL o with
          | none => rw [he] at hv; cases hv
          | some u =>
            rw [he] at hv
            simp only [Option.bind_some] at hv
            split at hv <;> cases hv
            rename_i hi
            simp only [hi, if_true]
            exact this
        | none =>
          have e2 : ∀ u, evPure P Γ T.toL o = some u → u.inside 0 = false := by
            intro u he
            rw [he] at hv
            simp only [Option.bind_some] at hv
            split at hv
            · cases hv
            · rename_i hi; simpa using hi
          have key : ∀ (N : List Nat), (Option.map toR3 (match opM P Γ call T.toL H o N with | some (M, v, Hm, W) => (match evTrS P Γ call ops l (stepS T o.dst v) (mergeF W 0 H Hm) with | some (L, T2, H2) => some (⟨T.toL, H, true, M, N, v, Hm, W, W.isEmpty && Nat.beq H.length Hm.length⟩ :: L, T2, H2) | none => none) | none => none) = (match opM P Γ call T.toL H o N with | some (M, v, Hm, W) => (match evTr P Γ call ops l (stepT T.toL o.dst v) (mergeF W 0 H Hm) with | some (L, T2, H2) => some (⟨T.toL, H, true, M, N, v, Hm, W, W.isEmpty && Nat.beq H.length Hm.length⟩ :: L, T2, H2) | none => none) | none => none)) ∧
              ∀ r, (match opM P Γ call T.toL H o N with | some (M, v, Hm, W) => (match evTrS P Γ call ops l (stepS T o.dst v) (mergeF W 0 H Hm) with | some (L, T2, H2) => some (⟨T.toL, H, true, M, N, v, Hm, W, W.isEmpty && Nat.beq H.length Hm.length⟩ :: L, T2, H2) | none => none) | none => none) = some r → r.2.1.small = true := by
            intro N
            cases ho : opM P Γ call T.toL H o N with
            | none => exact ⟨rfl, fun r h => by cases h⟩
            | some q =>
              obtain ⟨M, v, Hm, W⟩ := q
              exact fin _ _ _ _ (stepS_small hs _ _) (stepS_toL hs _ _)
          cases he : evPure P Γ T.toL o with
          | none => exact key _
          | some u =>
            have := e2 u he
            simp only [this, Bool.false_eq_true, if_false]
            exact key _
def evSeqS (P : Program) (Γ : Facts) (call : CallF) (ops : Array Oper) : List Oper → Sl → Hp → Option (Sl × Hp × List Nat)
  | [], T, H => some (T, H, [])
  | o :: l, T, H => match evGuardS Γ ops T o.guard with
    | some true => (match evOpS P Γ call T H o with
      | some (v, H1, W1) => (match evSeqS P Γ call ops l (stepS T o.dst v) H1 with
        | some (T2, H2, W2) => some (T2, H2, addW W1 W2)
        | none => none)
      | none => none)
    | some false => evSeqS P Γ call ops l (stepS T o.dst uS) H
    | none => none
def toR2 {β : Type} : Sl × β → List SV × β := fun r => (r.1.toL, r.2)
theorem evSeqS_eq (P : Program) (Γ : Facts) (call : CallF) (ops : Array Oper) : ∀ (l : List Oper) (T : Sl) (H : Hp), T.small = true → (evSeqS P Γ call ops l T H).map toR2 = evSeq P Γ call ops l T.toL H ∧ ∀ r, evSeqS P Γ call ops l T H = some r → r.1.small = true
  | [], T, H, hs => ⟨rfl, fun r h => by simp only [evSeqS] at h; cases h; exact hs⟩
  | o :: l, T, H, hs => by
    have ih := fun (T' : Sl) H' (hs' : T'.small = true) => evSeqS_eq P Γ call ops l T' H' hs'
    simp only [evSeqS, evSeq, evGuardS_eq, evOpS_eq]
    cases hg : evGuard Γ ops T.toL o.guard with
    | none => exact ⟨rfl, fun r h => by cases h⟩
    | some g =>
      cases g with
      | false =>
        obtain ⟨i1, i2⟩ := ih (stepS T o.dst uS) H (stepS_small hs _ _)
        rw [stepS_toL hs] at i1
        exact ⟨i1, i2⟩
      | true =>
        simp only
        cases ho : evOp P Γ call T.toL H o with
        | none => exact ⟨rfl, fun r h => by cases h⟩
        | some q =>
          obtain ⟨v, H1, W1⟩ := q
          simp only
          obtain ⟨i1, i2⟩ := ih (stepS T o.dst v) H1 (stepS_small hs _ _)
          rw [stepS_toL hs] at i1
          rw [← i1]
          cases h : evSeqS P Γ call ops l (stepS T o.dst v) H1 with
          | none => exact ⟨rfl, fun r h => by cases h⟩
          | some q => exact ⟨rfl, fun r h' => by cases h'; exact i2 q h⟩
def evDrawS (P : Program) (Γ : Facts) (call : CallF) (ops : Array Oper) (T : Sl) (H : Hp) : Option (Sl × Hp × List Nat) :=
  match evTrS P Γ call ops ops.toList T H with
  | some (L, T', H') => if statR ops = true ∧ dynP L (ancL ops.toList #[]) = true then some (T', H', L.foldr (fun x W => addW x.W W) []) else none
  | none => none
theorem evDrawS_eq (P : Program) (Γ : Facts) (call : CallF) (ops : Array Oper) (T : Sl) (H : Hp) (hs : T.small = true) : (evDrawS P Γ call ops T H).map toR2 = evDraw P Γ call ops T.toL H ∧ ∀ r, evDrawS P Γ call ops T H = some r → r.1.small = true := by
  obtain ⟨i1, i2⟩ := evTrS_eq P Γ call ops ops.toList T H hs
  simp only [evDrawS, evDraw]
  rw [← i1]
  cases h : evTrS P Γ call ops ops.toList T H with
  | none => exact ⟨rfl, fun r h => by cases h⟩
  | some q =>
    have := i2 q h
    obtain ⟨L, T2, H2⟩ := q
    simp only [Option.map_some, toR3]
    split
    · exact ⟨rfl, fun r h' => by cases h'; exact this⟩
    · exact ⟨rfl, fun r h' => by cases h'⟩
abbrev ResS := Ex × Sl × Hp × List Nat
def toRes : ResS → Res := fun r => (r.1, r.2.1.toL, r.2.2)
def ofRes (r : Res) : ResS := (r.1, Sl.ofL r.2.1, r.2.2)
def smallR (r : Res) : Bool := Nat.ble r.2.1.length 549755813888
theorem ofRes_to {r : Res} (h : smallR r = true) : toRes (ofRes r) = r ∧ (ofRes r).2.1.small = true := by
  have := Nat.le_of_ble_eq_true h
  exact ⟨by simp only [toRes, ofRes, Sl.ofL_toL (show r.2.1.length ≤ 2 ^ 39 from this)], h⟩
def evLoopS (body : Sl → Hp → Option ResS) : Nat → Sl → Hp → Option ResS
  | 0, _, _ => none
  | n + 1, T, H => match body T H with
    | some (.normal, T1, H1, W1) => (match evLoopS body n T1 H1 with
      | some (e, T2, H2, W2) => some (e, T2, H2, addW W1 W2)
      | none => none)
    | r => r
theorem evLoopS_eq {body : Sl → Hp → Option ResS} {body' : List SV → Hp → Option Res} (hb : ∀ T H, T.small = true → (body T H).map toRes = body' T.toL H ∧ ∀ r, body T H = some r → r.2.1.small = true) : ∀ (n : Nat) (T : Sl) (H : Hp), T.small = true → (evLoopS body n T H).map toRes = evLoop body' n T.toL H ∧ ∀ r, evLoopS body n T H = some r → r.2.1.small = true
  | 0, T, H, hs => ⟨rfl, fun r h => by cases h⟩
  | n + 1, T, H, hs => by
    obtain ⟨b1, b2⟩ := hb T H hs
    simp only [evLoopS, evLoop]
    rw [← b1]
    cases h : body T H with
    | none => exact ⟨rfl, fun r h => by cases h⟩
    | some q =>
      have hq := b2 q h
      obtain ⟨e, T1, H1, W1⟩ := q
      cases e with
      | normal =>
        simp only [Option.map_some, toRes]
        obtain ⟨i1, i2⟩ := evLoopS_eq hb n T1 H1 hq
        rw [← i1]
        cases h2 : evLoopS body n T1 H1 with
        | none => exact ⟨rfl, fun r h => by cases h⟩
        | some q2 =>
          obtain ⟨e2, T2, H2, W2⟩ := q2
          have hq2 := i2 _ h2
          exact ⟨rfl, fun r h' => by cases h'; exact hq2⟩
      | exit id => exact ⟨rfl, fun r h' => by cases h'; exact hq⟩
      | ret => exact ⟨rfl, fun r h' => by cases h'; exact hq⟩

def findQ : List LoopF → FuncId → List Nat → Sl → Hp → Option Res
  | [], _, _, _, _ => none
  | l :: L, f, p, T, H => findL (l :: L) f p T.toL H
theorem findQ_eq (Λ : List LoopF) (f : FuncId) (p : List Nat) (T : Sl) (H : Hp) : findQ Λ f p T H = findL Λ f p T.toL H := by
  cases Λ <;> rfl
def evCS (P : Program) (Γ : Facts) (Λ : List LoopF) (lf : Nat) (call : CallF) (f : FuncId) : Nat → List Nat → Code → Sl → Hp → Option ResS
  | 0, _, _, _, _ => none
  | n + 1, p, c, T, H => match c with
    | .skip => some (.normal, T, H, [])
    | .label _ => some (.normal, T, H, [])
    | .region _ ops false => (evSeqS P Γ call ops ops.toList T H).map fun r => (.normal, r)
    | .region _ ops true => (evDrawS P Γ call ops T H).map fun r => (.normal, r)
    | .seq x y => (match evCS P Γ Λ lf call f n (0 :: p) x T H with
      | some (.normal, T1, H1, W1) => (match evCS P Γ Λ lf call f n (1 :: p) y T1 H1 with
        | some (e, T2, H2, W2) => some (e, T2, H2, addW W1 W2)
        | none => none)
      | r => r)
    | .cond c x y => (match evOS T c with
      | some (.bool b) => (match res Γ b with
        | some true => evCS P Γ Λ lf call f n (0 :: p) x T H
        | some false => evCS P Γ Λ lf call f n (1 :: p) y T H
        | none => none)
      | _ => none)
    | .block id x => (match evCS P Γ Λ lf call f n (0 :: p) x T H with
      | some (.exit id', r) => if id' = id then some (.normal, r) else some (.exit id', r)
      | r => r)
    | .loop x => (match findQ Λ f p T H with
      | some r => if smallR r then some (ofRes r) else none
      | none => evLoopS (evCS P Γ Λ lf call f n (0 :: p) x) lf T H)
    | .exit id => some (.exit id, T, H, [])
    | .ret => some (.ret, T, H, [])
    | .scope x => evCS P Γ Λ lf call f n (0 :: p) x T H
    | .rangeFunc g _ _ _ => (evRange P call f p T.toL H (evOS T g)).map fun r => (r.1, T, r.2.1, r.2.2)
    | _ => none
/-- Where the quick one finds something, the other one finds the same. -/
theorem evCS_ok (P : Program) (Γ : Facts) (Λ : List LoopF) (lf : Nat) (call : CallF) (f : FuncId) : ∀ (n : Nat) (p : List Nat) (c : Code) (T : Sl) (H : Hp) (r : ResS), T.small = true → evCS P Γ Λ lf call f n p c T H = some r → evC P Γ Λ lf call f n p c T.toL H = some (toRes r) ∧ r.2.1.small = true
  | 0, p, c, T, H, r, hs, h => by cases h
  | n + 1, p, c, T, H, r, hs, h => by
    have ih := fun p c (T : Sl) H r => evCS_ok P Γ Λ lf call f n p c T H r
    unfold evCS at h
    unfold evC
    cases c
    case skip => cases h; exact ⟨rfl, hs⟩
    case label l => cases h; exact ⟨rfl, hs⟩
    case exit id => cases h; exact ⟨rfl, hs⟩
    case ret => cases h; exact ⟨rfl, hs⟩
    case rangeFunc g ps assign body =>
      simp only at h ⊢
      obtain ⟨q, hq, rfl⟩ := Option.map_eq_some_iff.1 h
      rw [evOS_eq] at hq
      rw [hq]
      exact ⟨rfl, hs⟩
    case region id ops d =>
      cases d with
      | false =>
        simp only at h ⊢
        obtain ⟨i1, i2⟩ := evSeqS_eq P Γ call ops ops.toList T H hs
        obtain ⟨q, hq, rfl⟩ := Option.map_eq_some_iff.1 h
        rw [hq] at i1
        rw [← i1]
        exact ⟨rfl, i2 q hq⟩
      | true =>
        simp only at h ⊢
        obtain ⟨i1, i2⟩ := evDrawS_eq P Γ call ops T H hs
        obtain ⟨q, hq, rfl⟩ := Option.map_eq_some_iff.1 h
        rw [hq] at i1
        rw [← i1]
        exact ⟨rfl, i2 q hq⟩
    case seq x y =>
      simp only at h ⊢
      split at h
      · rename_i T1 H1 W1 h1
        obtain ⟨g1, g2⟩ := ih _ _ _ _ _ hs h1
        rw [g1]
        simp only [toRes]
        split at h
        · rename_i e T2 H2 W2 h2
          cases h
          obtain ⟨k1, k2⟩ := ih _ _ _ _ _ g2 h2
          rw [k1]
          exact ⟨rfl, k2⟩
        · cases h
      · rename_i hn
        obtain ⟨g1, g2⟩ := ih _ _ _ _ _ hs h
        rw [g1]
        obtain ⟨e, T1, H1, W1⟩ := r
        cases e with
        | normal => exact absurd h (hn _ _ _)
        | exit id => exact ⟨rfl, g2⟩
        | ret => exact ⟨rfl, g2⟩
    case cond cc x y =>
      simp only at h ⊢
      rw [evOS_eq] at h
      split at h
      · rename_i b hb
        rw [hb]
        simp only
        split at h
        · rename_i hr; rw [hr]; exact ih _ _ _ _ _ hs h
        · rename_i hr; rw [hr]; exact ih _ _ _ _ _ hs h
        · cases h
      · cases h
    case block id x =>
      simp only at h ⊢
      split at h
      · rename_i id' q h1
        obtain ⟨g1, g2⟩ := ih _ _ _ _ _ hs h1
        rw [g1]
        simp only [toRes]
        split at h
        · rename_i e; cases h; rw [if_pos e]; exact ⟨rfl, g2⟩
        · rename_i e; cases h; rw [if_neg e]; exact ⟨rfl, g2⟩
      · rename_i hn
        obtain ⟨g1, g2⟩ := ih _ _ _ _ _ hs h
        rw [g1]
        obtain ⟨e, q⟩ := r
        cases e with
        | exit id => exact absurd h (hn _ _)
        | normal => exact ⟨rfl, g2⟩
        | ret => exact ⟨rfl, g2⟩
    case loop x =>
      simp only at h ⊢
      rw [findQ_eq] at h
      split at h
      · rename_i q hq
        split at h <;> cases h
        rename_i hsm
        rw [hq]
        have := ofRes_to hsm
        simp only
        exact ⟨by rw [this.1], this.2⟩
      · rename_i hq
        rw [hq]
        simp only
        have hb := fun T H (hs : T.small = true) (r : ResS) (h : evCS P Γ Λ lf call f n (0 :: p) x T H = some r) => ih (0 :: p) x T H r hs h
        have key : ∀ (k : Nat) (T : Sl) (H : Hp) (r : ResS), T.small = true → evLoopS (evCS P Γ Λ lf call f n (0 :: p) x) k T H = some r → evLoop (evC P Γ Λ lf call f n (0 :: p) x) k T.toL H = some (toRes r) ∧ r.2.1.small = true := by
          intro k
          induction k with
          | zero => intro T H r _ h; cases h
          | succ k ihk =>
            intro T H r hs h
            simp only [evLoopS] at h
            simp only [evLoop]
            split at h
            · rename_i T1 H1 W1 h1
              obtain ⟨g1, g2⟩ := hb T H hs _ h1
              rw [g1]
              simp only [toRes]
              split at h
              · rename_i e T2 H2 W2 h2
                cases h
                obtain ⟨k1, k2⟩ := ihk _ _ _ g2 h2
                rw [k1]
                exact ⟨rfl, k2⟩
              · cases h
            · rename_i hn
              obtain ⟨g1, g2⟩ := hb T H hs _ h
              rw [g1]
              obtain ⟨e, T1, H1, W1⟩ := r
              cases e with
              | normal => exact absurd h (hn _ _ _)
              | exit id => exact ⟨rfl, g2⟩
              | ret => exact ⟨rfl, g2⟩
        exact key lf T H r hs h
    case scope x => exact ih _ _ _ _ _ hs h
    all_goals cases h
/-- The same code, with what was written handed along: no round of a loop waits for the later ones. -/
def withW (W : List Nat) (r : ResS) : ResS := (r.1, r.2.1, r.2.2.1, addW W r.2.2.2)
theorem addW_nil (W : List Nat) : addW W [] = W := by simp [addW]
theorem nil_addW (W : List Nat) : addW [] W = W := by simp [addW]
theorem addW_assoc (W W1 W2 : List Nat) : addW (addW W W1) W2 = addW W (addW W1 W2) := by
  simp only [addW, List.filter_append, List.append_assoc, List.filter_filter]
  congr 2
  apply List.filter_congr
  intro b _
  simp only [List.contains_eq_mem, List.mem_append, List.mem_filter]
  by_cases h : b ∈ W <;> by_cases h1 : b ∈ W1 <;> simp [h, h1]
def evLoopW (body : Sl → Hp → List Nat → Option ResS) : Nat → Sl → Hp → List Nat → Option ResS
  | 0, _, _, _ => none
  | n + 1, T, H, W => match body T H W with
    | some (.normal, T1, H1, W1) => evLoopW body n T1 H1 W1
    | r => r
theorem evLoopW_eq {body : Sl → Hp → Option ResS} {body' : Sl → Hp → List Nat → Option ResS} (hb : ∀ T H W, body' T H W = (body T H).map (withW W)) : ∀ (n : Nat) (T : Sl) (H : Hp) (W : List Nat), evLoopW body' n T H W = (evLoopS body n T H).map (withW W)
  | 0, _, _, _ => rfl
  | n + 1, T, H, W => by
    simp only [evLoopW, evLoopS, hb]
    cases h : body T H with
    | none => rfl
    | some q =>
      obtain ⟨e, T1, H1, W1⟩ := q
      cases e with
      | normal =>
        simp only [Option.map_some, withW]
        rw [evLoopW_eq hb n T1 H1 (addW W W1)]
        cases h2 : evLoopS body n T1 H1 with
        | none => rfl
        | some q2 => simp only [Option.map_some, withW, addW_assoc]
      | exit id => rfl
      | ret => rfl
def evCW (P : Program) (Γ : Facts) (Λ : List LoopF) (lf : Nat) (call : CallF) (f : FuncId) : Nat → List Nat → Code → Sl → Hp → List Nat → Option ResS
  | 0, _, _, _, _, _ => none
  | n + 1, p, c, T, H, W => match c with
    | .skip => some (.normal, T, H, W)
    | .label _ => some (.normal, T, H, W)
    | .region _ ops false => (match evSeqS P Γ call ops ops.toList T H with
      | some (T1, H1, W1) => some (.normal, T1, H1, addW W W1)
      | none => none)
    | .region _ ops true => (match evDrawS P Γ call ops T H with
      | some (T1, H1, W1) => some (.normal, T1, H1, addW W W1)
      | none => none)
    | .seq x y => (match evCW P Γ Λ lf call f n (0 :: p) x T H W with
      | some (.normal, T1, H1, W1) => evCW P Γ Λ lf call f n (1 :: p) y T1 H1 W1
      | r => r)
    | .cond c x y => (match evOS T c with
      | some (.bool b) => (match res Γ b with
        | some true => evCW P Γ Λ lf call f n (0 :: p) x T H W
        | some false => evCW P Γ Λ lf call f n (1 :: p) y T H W
        | none => none)
      | _ => none)
    | .block id x => (match evCW P Γ Λ lf call f n (0 :: p) x T H W with
      | some (.exit id', r) => if id' = id then some (.normal, r) else some (.exit id', r)
      | r => r)
    | .loop x => (match findQ Λ f p T H with
      | some r => if smallR r then some (withW W (ofRes r)) else none
      | none => evLoopW (evCW P Γ Λ lf call f n (0 :: p) x) lf T H W)
    | .exit id => some (.exit id, T, H, W)
    | .ret => some (.ret, T, H, W)
    | .scope x => evCW P Γ Λ lf call f n (0 :: p) x T H W
    | .rangeFunc g _ _ _ => (evRange P call f p T.toL H (evOS T g)).map fun r => (r.1, T, r.2.1, addW W r.2.2)
    | _ => none
theorem evCW_eq (P : Program) (Γ : Facts) (Λ : List LoopF) (lf : Nat) (call : CallF) (f : FuncId) : ∀ (n : Nat) (p : List Nat) (c : Code) (T : Sl) (H : Hp) (W : List Nat), evCW P Γ Λ lf call f n p c T H W = (evCS P Γ Λ lf call f n p c T H).map (withW W)
  | 0, _, _, _, _, _ => rfl
  | n + 1, p, c, T, H, W => by
    have ih := fun p c T H W => evCW_eq P Γ Λ lf call f n p c T H W
    unfold evCW evCS
    cases c
    case skip => simp [withW, addW_nil]
    case label l => simp [withW, addW_nil]
    case exit id => simp [withW, addW_nil]
    case ret => simp [withW, addW_nil]
    case scope x => exact ih _ _ _ _ _
    case rangeFunc g ps assign body =>
      simp only
      cases evRange P call f p T.toL H (evOS T g) <;> rfl
    case region id ops d =>
      cases d with
      | false =>
        simp only
        cases evSeqS P Γ call ops ops.toList T H <;> rfl
      | true =>
        simp only
        cases evDrawS P Γ call ops T H <;> rfl
    case seq x y =>
      simp only [ih]
      cases h : evCS P Γ Λ lf call f n (0 :: p) x T H with
      | none => rfl
      | some q =>
        obtain ⟨e, T1, H1, W1⟩ := q
        cases e with
        | normal =>
          simp only [Option.map_some, withW]
          cases h2 : evCS P Γ Λ lf call f n (1 :: p) y T1 H1 with
          | none => rfl
          | some q2 => simp only [Option.map_some, withW, addW_assoc]
        | exit id => rfl
        | ret => rfl
    case cond c x y =>
      simp only [ih]
      split
      · split <;> rfl
      · rfl
    case block id x =>
      simp only [ih]
      cases h : evCS P Γ Λ lf call f n (0 :: p) x T H with
      | none => rfl
      | some q =>
        obtain ⟨e, T1, H1, W1⟩ := q
        cases e with
        | normal => rfl
        | exit id' =>
          simp only [Option.map_some, withW]
          split <;> rfl
        | ret => rfl
    case loop x =>
      simp only
      split
      · split <;> rfl
      · exact evLoopW_eq (fun T H W => ih (0 :: p) x T H W) lf T H W
    all_goals rfl
theorem evCW_nil {P : Program} {Γ : Facts} {Λ : List LoopF} {lf : Nat} {call : CallF} {f : FuncId} {n : Nat} {p : List Nat} {c : Code} {T : Sl} {H : Hp} {r : ResS} (h : evCW P Γ Λ lf call f n p c T H [] = some r) : evCS P Γ Λ lf call f n p c T H = some r := by
  rw [evCW_eq] at h
  obtain ⟨q, hq, rfl⟩ := Option.map_eq_some_iff.1 h
  rw [hq]; simp [withW, nil_addW]

def evRes1S (P : Program) (T : Sl) (H : Hp) : ResultVar → Option SV
  | .tmp t => if (T.get t).isAny then none else some (T.get t)
  | .cell a t => (evAddrS (T.get a)).bind fun ad => evLoad P t ad H
def evResLS (P : Program) (T : Sl) (H : Hp) : List ResultVar → Option (List SV)
  | [] => some []
  | r :: l => match evRes1S P T H r, evResLS P T H l with
    | some v, some vs => some (v :: vs)
    | _, _ => none
theorem evResLS_eq (P : Program) (T : Sl) (H : Hp) : ∀ l : List ResultVar, evResLS P T H l = evResL P T.toL H l
  | [] => rfl
  | r :: l => by
    have h1 : evRes1S P T H r = evRes1 P T.toL H r := by cases r <;> simp only [evRes1S, evRes1, Sl.get_eq]
    simp only [evResLS, evResL, h1, evResLS_eq P T H l]; rfl
/-- The slots at the beginning of a call. -/
def startS (args : List SV) (n : Nat) : Sl := ⟨putAll 0 args .leaf, args.length + (n - args.length)⟩
theorem startS_toL {args : List SV} {n : Nat} (h : (startS args n).small = true) : (startS args n).toL = args ++ List.replicate (n - args.length) uS := by
  have hle := Nat.le_of_ble_eq_true h
  simp only [startS] at hle
  apply List.ext_getElem?
  intro k
  have hn : (startS args n).n = args.length + (n - args.length) := rfl
  have ht : (startS args n).t = putAll 0 args .leaf := rfl
  rw [Sl.getElem?]
  by_cases hk : k < args.length
  · rw [if_pos (show k < (startS args n).n by rw [hn]; omega), ht, putAll_get args 0 .leaf k (by omega), if_pos (show 0 ≤ k ∧ k < 0 + args.length by omega), List.getElem?_append_left hk, List.getD_eq_getElem?_getD, Nat.sub_zero, List.getElem?_eq_getElem hk]; rfl
  · rw [List.getElem?_append_right (by omega)]
    by_cases hk2 : k < args.length + (n - args.length)
    · rw [if_pos (show k < (startS args n).n by rw [hn]; exact hk2), ht, putAll_get args 0 .leaf k (by omega), if_neg (show ¬ (0 ≤ k ∧ k < 0 + args.length) by omega), Tm.get_leaf, List.getElem?_replicate, if_pos (by omega)]
    · rw [if_neg (show ¬ k < (startS args n).n by rw [hn]; exact hk2), List.getElem?_replicate, if_neg (by omega)]
def evFS (P : Program) (Γ : Facts) (Λ : List LoopF) (lf : Nat) : Nat → CallF
  | 0, _, _, _ => none
  | d + 1, f, args, H => if Nat.beq f yieldF then evYield P (fun g p c T H => let T0 := Sl.ofL T; if T0.small = false then none else (evCW P Γ Λ lf (evFS P Γ Λ lf d) g 1000 p c T0 H []).map toRes) args H else match P.funcs[f]? with
    | none => none
    | some fn => match fn.body with
      | none => (match findF Γ.exts f, litL? args with
        | some g, some l => (match g l with
          | some v => (ofVal 64 v).map fun v => (v, H, [])
          | none => none)
        | _, _ => (match findF Γ.extS f with
          | some g => (match g Γ.dom args with
            | some v => if insideL 0 args && v.inside 0 then some (v, H, []) else none
            | none => none)
          | none => none))
      | some c => match (if insideL 0 args then told Γ f args else none) with
        | some v => if v.inside 0 then some (v, H, []) else none
        | none => match toldH Γ f args H with
         | some r => some r
         | none => let T0 := startS args fn.ntmps; if T0.small = false then none else match evCW P Γ Λ lf (evFS P Γ Λ lf d) f 1000 [] c T0 H [] with
          | some (.exit _, _, _, _) => none
          | some (_, T', H', W') => (evResLS P T' H' fn.results.toList).map fun vs => endCall H (one vs) H' W'
          | none => none
theorem evFS_ok (hm : P.follows .mixedOrders = true) (hn : namesOk P = true) (hΓ : Γ.Holds P ρ) {Λ : List LoopF} (hΛ : ∀ l ∈ Λ, l.Ok P ρ) {lf : Nat} : ∀ d, CallOk P ρ (evFS P Γ Λ lf d)
  | 0 => fun f args H r h => by cases h
  | d + 1 => by
    intro f args H r h σ w hr hin
    simp only [evFS] at h
    split at h
    · rename_i hy
      have hy := Nat.eq_of_beq_eq_true hy
      subst hy
      refine evYield_ok (fun g p c T H r hc hev => ?_) h hr hin
      split at hev
      · cases hev
      · rename_i hsm
        have hsm : (Sl.ofL T).small = true := by simpa using hsm
        obtain ⟨q, hq, rfl⟩ := Option.map_eq_some_iff.1 hev
        obtain ⟨hC, _⟩ := evCS_ok P Γ Λ lf _ _ _ _ _ _ _ _ hsm (evCW_nil hq)
        have eT : (Sl.ofL T).toL = T := Sl.ofL_toL (Nat.le_of_ble_eq_true (by simpa [Sl.small, Sl.ofL] using hsm))
        rw [eT] at hC
        exact evC_ok hm hn hΓ hΛ (evFS_ok hm hn hΓ hΛ d) _ _ _ _ _ _ hc hC
    rename_i hy
    rw [callY_ne (eq_false_of_ne_true hy)]
    split at h
    · cases h
    · rename_i fn hf
      split at h
      · rename_i hb
        split at h
        · rename_i g l hg hl
          split at h
          · rename_i u hu
            obtain ⟨v, hv, rfl⟩ := Option.map_eq_some_iff.1 h
            obtain ⟨e, s⟩ := ofVal_den (ρ := ρ) (σ := σ) _ _ _ hv
            rw [litL_den _ _ hl, hΓ.exts _ (findF_mem hg) l u hu w, ← e]
            exact good_same hr (s _)
          · cases h
        · split at h
          · rename_i g hg
            split at h
            · rename_i v hv
              split at h <;> cases h
              rename_i hin0
              simp only [Bool.and_eq_true] at hin0
              have := hΓ.extS _ (findF_mem hg) Γ.dom hΓ.dom args v hv w
              rw [denL_agree (n := 0) (σ := σ0) (σ' := σ) (fun b hb => by omega) args hin0.1, this, ← SV.den_agree (n := 0) (σ := σ0) (σ' := σ) (fun b hb => by omega) v hin0.2]
              exact good_same hr (SV.inside_mono (Nat.zero_le _) v hin0.2)
            · cases h
          · cases h
      · rename_i c hb
        rw [enters hn hf hb]
        show Calls P f _ w _
        split at h
        · rename_i v hv
          split at hv
          · rename_i h0
            split at h
            · rename_i hv0
              cases h
              have := told_ok hΓ hv w
              rw [denL_agree (n := 0) (σ := σ0) (σ' := σ) (fun b hb => by omega) args h0]
              exact Calls.mono this fun e w' ⟨he, hbl⟩ => ⟨_, he, good_below hr hv0 hbl⟩
            · cases h
          · cases hv
        · split at h
          · rename_i r' hr'
            cases h
            exact toldH_ok hΓ hr hr'
          split at h
          · cases h
          · rename_i hsm
            have hsm : (startS args fn.ntmps).small = true := by simpa using hsm
            split at h
            · cases h
            rename_i e T' H' W' hne hCS
            obtain ⟨hC, _⟩ := evCS_ok P Γ Λ lf _ _ _ _ _ _ _ _ hsm (evCW_nil hCS)
            rw [startS_toL hsm] at hC
            obtain ⟨vs, hvs, rfl⟩ := Option.map_eq_some_iff.1 h
            rw [evResLS_eq] at hvs
            refine (callsIn_wide (n := 0)).1 (callsIn_of_wp_marks hf hb trivial ?_)
            refine evC_ok hm hn hΓ hΛ (evFS_ok hm hn hΓ hΛ d) 1000 [] c _ H _ (by simp [codeAt, sub, hf, hb]) hC none 0 w.heap.size [] σ _ w _ ?_ hr Marks.none ?_
            · refine ⟨fun t _ => ?_, fun v hv => ?_, by simp [denL_length], rfl⟩
              · simp only [List.getD_eq_getElem?_getD, Array.getD_eq_getD_getElem?, Array.getElem?_append, List.getElem?_append, List.size_toArray, denL_length]
                split
                · rename_i hlt
                  simp [denL_map, hlt]
                · by_cases h3 : t - args.length < fn.ntmps - args.length
                  · simp [h3, uS_den]
                  · simp [h3, uS_den]
              · rcases List.mem_append.1 hv with hv | hv
                · exact insideL_mem hin hv
                · rw [(List.mem_replicate.1 hv).2]; rfl
            · intro ds' σ' a' w' hp hT' hM'
              rw [← hT'.defers] at hM'
              have hL := fun R hR => hM'.leaves (F := Fence.wide) (n := 0) (fn := fn) (tmps := a'.tmps) (R := R) hp hR
              cases e with
              | exit id => exact absurd rfl (hne id)
              | normal => exact hL _ fun w2 hp2 => ⟨_, (results_ok hT' hp2.rel hvs).1, _, rfl, endCall_ok hr hp2 (results_ok hT' hp2.rel hvs).2⟩
              | ret => exact hL _ fun w2 hp2 => ⟨_, (results_ok hT' hp2.rel hvs).1, _, rfl, endCall_ok hr hp2 (results_ok hT' hp2.rel hvs).2⟩
            · cases h


theorem calls_of_evS (hm : P.follows .mixedOrders = true) (hn : namesOk P = true) (hΓ : Γ.Holds P ρ) {Λ : List LoopF} (hΛ : ∀ l ∈ Λ, l.Ok P ρ) {lf d : Nat} {f : FuncId} {args : List SV} {v : SV} {H' : Hp} (h : evFS P Γ Λ lf d f args [] = some (v, H', [])) (hv : v.inside 0 = true) (hin : insideL 0 args = true)
    (hb : ((P.funcs[f]?).bind (·.body)).isSome = true) (w : World) : Calls P f (denL ρ σ0 args).toArray w fun e w' => e = .returned (v.den ρ σ0) ∧ Below w.heap.size w w' := by
  have hr : HRel P ρ σ0 [] w := ⟨fun b x h => by simp at h, fun b b' x x' h => by simp at h⟩
  have := evFS_ok hm hn hΓ hΛ d f args [] _ h σ0 w hr hin
  rw [callY_ne (notY hn hb)] at this
  obtain ⟨fn, hf⟩ : ∃ fn, P.funcs[f]? = some fn := by
    cases hf : P.funcs[f]? with
    | none => rw [hf] at hb; cases hb
    | some fn => exact ⟨fn, rfl⟩
  rw [hf] at hb
  obtain ⟨c, hc⟩ := Option.isSome_iff_exists.1 hb
  rw [enters hn hf (by simpa using hc)] at this
  refine Calls.mono this fun e w' ⟨u, he, σ', hp, hu, _⟩ => ⟨?_, hp.os, hp.tape, hp.out, hp.size, fun k hk => hp.frame k hk fun b hb => by cases hb⟩
  rw [he, hu, SV.den_agree (n := 0) (fun b hb => by omega) v hv]

/-- One run of a loop's body, quickly. -/
def stepQ (P : Program) (Γ : Facts) (Λ : List LoopF) (lf d : Nat) (f : FuncId) (p : List Nat) (T : List SV) (H : Hp) (r : Res) : Option (List Pr) := match codeAt P f (0 :: p) with
  | some x => if Nat.ble T.length 549755813888 then (match evCW P Γ Λ lf (evFS P Γ Λ lf d) f 1000 (0 :: p) x (Sl.ofL T) H [] with
    | some (e, T1, H1, W1) => if decide (e = r.1) && okC H H1 W1 r.2.1 r.2.2.1 r.2.2.2 then (match prT T1.toL r.2.1, prH H1 r.2.2.1 with
      | some l1, some l2 => some (l1 ++ l2)
      | _, _ => none) else none
    | none => none) else none
  | none => none
theorem stepQ_ok {ρ' : Env} (hm : P.follows .mixedOrders = true) (hn : namesOk P = true) (hΓ : Γ.Holds P ρ) {Λ : List LoopF} (hΛ : ∀ l ∈ Λ, l.Ok P ρ) {lf d : Nat} {f : FuncId} {p : List Nat} {T : List SV} {H : Hp} {r : Res} {l : List Pr}
    (h : stepQ P Γ Λ lf d f p T H r = some l) (hl : All ρ ρ' l) : ∀ x, codeAt P f p = some (.loop x) → Leads2 P ρ ρ' x T H r := by
  intro x hx
  have hx' : codeAt P f (0 :: p) = some x := codeAt_child hx rfl
  unfold stepQ at h
  rw [hx'] at h
  simp only at h
  split at h
  · rename_i hle
    have hle := Nat.le_of_ble_eq_true hle
    have eT : (Sl.ofL T).toL = T := Sl.ofL_toL hle
    have hsm : (Sl.ofL T).small = true := by
      unfold Sl.small Sl.ofL
      exact Nat.ble_eq.mpr hle
    split at h
    · rename_i e T1 H1 W1 he
      obtain ⟨hC, _⟩ := evCS_ok P Γ Λ lf _ _ _ _ _ _ _ _ hsm (evCW_nil he)
      rw [eT] at hC
      split at h
      · rename_i ho
        simp only [Bool.and_eq_true, decide_eq_true_eq] at ho
        split at h
        · rename_i l1 l2 q1 q2
          cases h
          have := (evC_ok hm hn hΓ hΛ (evFS_ok hm hn hΓ hΛ d) _ _ _ _ _ _ hx' hC).conv q1 q2 ho.2 hl.left hl.right
          obtain ⟨r1, r2, r3, r4⟩ := r
          obtain ⟨h1, h2⟩ := ho
          simp only at h1
          subst h1
          exact this
        · cases h
      · cases h
    · cases h
  · cases h
end Go.Proofs.Ytgdhpgjfebinhaa.Ev
