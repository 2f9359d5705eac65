/- The symbolic machine's operations, one by one. -/
import Derived.Test.YtgdhpgjfebinhaaFvh
import Derived.Laws.Build
import Derived.ControlIn
import Derived.CallsIn
import Derived.TacticsIn
namespace Go.Proofs.Ytgdhpgjfebinhaa.Ev
set_option linter.unusedSimpArgs false
open Go Go.RowKit
set_option linter.unusedVariables false
variable {P : Program} {ρ : Env} {Γ : Facts}
variable {ds : List Deferred}

/-- Everywhere, or in a round of a range over a function. -/
def Rn (ro : Option Nat) : Fence := { fn := fun _ => True, depth := none, alive := false, round := ro }
/-- What a value is that an operation hands on, calls included. -/
def ORes (P : Program) (r : Result Next) (G : Value → World → Prop) : Prop := match r with
  | .ok (.round l f tmps assign body) w' => ∀ ro n, RoundIn (Rn ro) n P l f tmps assign body w' fun e w'' => ∃ v, e = .returned v ∧ G v w''
  | .ok (.value v) w' => G v w'
  | .ok .skip w' => G undef w'
  | .ok (.enter f args) w' => Calls P f args w' fun e w'' => ∃ v, e = .returned v ∧ G v w''
  | _ => False

theorem callsRn {ro : Option Nat} {n : Nat} {f : FuncId} {args : Array Value} {w : World} {R : Ending → World → Prop} (h : Calls P f args w R) : CallsIn (Rn ro) n P f args w R := (callsIn_wide (n := n)).2 h
theorem ORes.wp {ro : Option Nat} {n : Nat} {o : Oper} {a : Act} {w : World} {G : Value → World → Prop} {K : Act → World → Prop} {Q : Exit → Act → World → Prop} (hd : ∀ c, o.op ≠ .defer c) (h : ORes P ((execOp a.eval o).run P w) G) (hK : ∀ v w', G v w' → K (a.put o.dst v) w') : o.wpIn (Rn ro) n P a w K Q := by
  refine ⟨fun _ _ => trivial, ?_⟩
  rw [show (Rn ro).round = ro from rfl, Oper.semAt_eq ro _ _ hd]
  generalize (execOp a.eval o).run P w = r at *
  cases r with
  | halt x w' => cases h
  | ok n' w' =>
    cases n' with
    | value v => rw [Oper.uponIn_value]; exact hK _ _ h
    | skip => rw [Oper.uponIn_skip]; exact hK _ _ h
    | enter f args => rw [Oper.uponIn_enter]; exact ⟨fun h => (by cases h), callsRn (Calls.mono h fun e w'' ⟨v, he, hg⟩ => (by subst he; exact hK _ _ hg))⟩
    | round l f tmps assign body => rw [Oper.uponIn_round]; exact ⟨fun h => (by cases h), RoundIn.mono (h ro (n - 1)) fun e w'' ⟨v, he, hg⟩ => (by subst he; exact hK _ _ hg)⟩
    | _ => exact h.elim
theorem ORes.mono {r : Result Next} {G G' : Value → World → Prop} (h : ORes P r G) (hG : ∀ v w', G v w' → G' v w') : ORes P r G' := by
  cases r with
  | halt x w' => cases h
  | ok n w' =>
    cases n with
    | value v => exact hG _ _ h
    | skip => exact hG _ _ h
    | enter f args => exact Calls.mono h fun e w'' ⟨v, he, hg⟩ => ⟨v, he, hG _ _ hg⟩
    | round l f tmps assign body => exact fun ro n => RoundIn.mono (h ro n) fun e w'' ⟨v, he, hg⟩ => ⟨v, he, hG _ _ hg⟩
    | _ => exact h.elim
theorem map_arr {α β : Type} (f : α → β) (xs : Array α) : xs.map f = (xs.toList.map f).toArray := by cases xs; simp

/-- The number by which a call of yield goes; its first argument is yield. -/
def yieldF : FuncId := 4611686018427387904
def callY (f : FuncId) (args : List Value) : Sem Next := if f = yieldF then (match args with
  | .func (.yield l) _ _ :: rest => Instr.yield l rest.toArray
  | _ => callFunc f args.toArray) else callFunc f args.toArray
theorem callY_ne {f : FuncId} (h : Nat.beq f yieldF = false) (args : List Value) : callY f args = callFunc f args.toArray := if_neg (Nat.ne_of_beq_eq_false h)
/-- A call of a function, by whatever is known of it. -/
abbrev CallF := FuncId → List SV → Hp → Option Out
def CallOk (P : Program) (ρ : Env) (call : CallF) : Prop :=
  ∀ f args H r, call f args H = some r → ∀ σ w, HRel P ρ σ H w → insideL H.length args = true → ORes P ((callY f (denL ρ σ args)).run P w) (Good P ρ σ H r w)

/-- The greater, or the lesser, of two numbers. -/
def evMax2 (Γ : Facts) (gt : Bool) : SV → SV → Option SV
  | .int k x, .int _ y => some (.int k (nf Γ (mkBin (if gt then .maxI else .minI) x y)))
  | _, _ => none
def evMaxL (Γ : Facts) (gt : Bool) : SV → List SV → Option SV
  | x, [] => some x
  | x, y :: l => match evMax2 Γ gt x y with
    | some z => evMaxL Γ gt z l
    | none => none
theorem max2_ok (hΓ : Γ.Holds P ρ) {x y z : SV} {gt : Bool} (h : evMax2 Γ gt x y = some z) (σ : Sg) : Runs P ((if gt then Builtin.max2 else Builtin.min2) (x.den ρ σ) (y.den ρ σ)) (z.den ρ σ) ∧ ∀ n, z.inside n = true := by
  unfold evMax2 at h
  split at h
  · cases h
    refine ⟨fun w => ?_, fun _ => rfl⟩
    cases gt <;> simp [SV.den, Builtin.max2, Builtin.min2, nf_den hΓ, mkBin_den, NOp.den]
  · cases h
theorem maxL_ok (hΓ : Γ.Holds P ρ) {gt : Bool} (σ : Sg) : ∀ (l : List SV) (x z : SV), evMaxL Γ gt x l = some z → Runs P ((denL ρ σ l).foldlM (if gt then Builtin.max2 else Builtin.min2) (x.den ρ σ)) (z.den ρ σ) ∧ ∀ n, x.inside n = true → z.inside n = true
  | [], x, z, h => by cases h; exact ⟨fun w => by simp [denL], fun _ h => h⟩
  | y :: l, x, z, h => by
    simp only [evMaxL] at h
    split at h
    · rename_i u hu
      obtain ⟨h1, h2⟩ := max2_ok hΓ hu σ
      obtain ⟨h3, h4⟩ := maxL_ok hΓ σ l u z h
      refine ⟨fun w => ?_, fun n _ => h4 n (h2 n)⟩
      simp only [denL, List.foldlM_cons, Sem.run_bind, h1 w, Result.andThen_ok, h3 w]
    · cases h

def evLenB (P : Program) (t : TypeId) (x : SV) : Option Nat := match P.underlying t, x with
  | some (.array n _), _ => some n
  | some .string, .str s => some s.size
  | some (.slice _), .slice _ n _ => some n
  | some (.slice _), .vec _ n => some n
  | some (.slice _), .vsl _ _ _ n => some n
  | some (.pointer a), _ => match P.underlying a with
    | some (.array n _) => some n
    | _ => none
  | _, _ => none
theorem lenB_ok {t : TypeId} {x : SV} {n : Nat} (h : evLenB P t x = some n) {ts : Array TypeId} (ht : ts[0]? = some t) (rt : TypeId) (σ : Sg) : Runs P (Builtin.len_ ts rt #[x.den ρ σ]) (.int .i64 n) := by
  unfold evLenB at h
  intro w
  split at h
  · rename_i hu; cases h; simp [Builtin.len_, ht, run_underlying hu, goInt]
  · rename_i hu; cases h; simp [Builtin.len_, ht, run_underlying hu, goInt, SV.den]
  · rename_i hu; cases h; simp [Builtin.len_, ht, run_underlying hu, goInt, SV.den]
  · rename_i hu; cases h; simp [Builtin.len_, ht, run_underlying hu, goInt, SV.den]
  · rename_i hu; cases h; simp [Builtin.len_, ht, run_underlying hu, goInt, SV.den]
  · rename_i hu
    split at h
    · rename_i hu'; cases h; simp [Builtin.len_, ht, run_underlying hu, run_underlying hu', goInt]
    · cases h
  · cases h

/-- Where a slice that is copied to lies. -/
def dstOf : SV → Option (Option Addr × Nat)
  | .slice base n _ => some (base, n)
  | .vec b n => some (some ⟨b, 0, none⟩, n)
  | _ => none
theorem dstOf_den {d : SV} {base : Option Addr} {n : Nat} (h : dstOf d = some (base, n)) (ρ : Env) (σ : Sg) : ∃ c, d.den ρ σ = .slice (base.map σ.addr) n c := by
  unfold dstOf at h
  split at h <;> cases h
  · exact ⟨_, rfl⟩
  · exact ⟨_, by simp only [SV.den, Option.map_some]; rw [addr_none rfl]⟩
def evCopy (P : Program) (ts : Array TypeId) (args : List SV) (H : Hp) : Option Out := match args with
  | [d, s] => (ts[0]?).bind fun t => (match P.underlying t with
    | some (.slice e) => (P.info? e).bind fun i => (dstOf d).bind fun q => (evLen s).bind fun m => (evFirst H s (Nat.min m q.2 * i.size)).bind fun new => if new.all SV.isCell = true then (match q.1 with
      | none => some (.int .i64 (.lit (Nat.min m q.2 : Nat)), H, [])
      | some a => (getC H a.block).bind fun y => if a.spot = none ∧ y.ro = false ∧ a.off + new.length ≤ y.cells.length then some (.int .i64 (.lit (Nat.min m q.2 : Nat)), H.set a.block (some { y with cells := setL y.cells a.off new }), [a.block]) else none)
      else none
    | _ => none)
  | _ => none
theorem evCopy_ok {σ : Sg} {H : Hp} {w : World} (hr : HRel P ρ σ H w) {ts : Array TypeId} {rt : TypeId} {args : List SV} {r : Out} (h : evCopy P ts args H = some r) :
    ∃ u w', (Builtin.copy_ ts rt (denL ρ σ args).toArray).run P w = .ok u w' ∧ Good P ρ σ H r w u w' := by
  unfold evCopy at h
  split at h
  · rename_i d s
    obtain ⟨t, ht, h⟩ := Option.bind_eq_some_iff.1 h
    split at h
    · rename_i e hd
      simp only [Option.bind_eq_some_iff, Option.ite_none_right_eq_some] at h
      obtain ⟨i, hi, ⟨base, dl⟩, hq, m, hm, new, hnew, hall, h⟩ := h
      obtain ⟨c, hden⟩ := dstOf_den hq ρ σ
      have hlx := lenOf_ok (P := P) (ρ := ρ) hm σ w
      obtain ⟨hfn, hnin, hln⟩ := first_ok (P := P) hr hnew
      simp only at h hfn
      split at h
      · cases h
        refine ⟨_, w, ?_, good_same (v := .int .i64 (.lit (Nat.min m dl : Nat))) hr rfl⟩
        simp only [denL, hden, Option.map_none]
        simp [Builtin.copy_, ht, run_underlying hd, hlx, run_sizeOf hi w, hfn, goInt, SV.den, NE.den]
      · rename_i a
        simp only [Option.bind_eq_some_iff, Option.ite_none_right_eq_some, Option.some.injEq] at h
        obtain ⟨y, hy, ⟨hs, hro, hle⟩, rfl⟩ := h
        have hy' := getC_some hy
        obtain ⟨hyin, rest, hrow, _, _⟩ := hr.con hy hro
        obtain ⟨w', hrun, hu⟩ := run_storeCells (P := P) (t := y.elem) (k := σ.blk a.block) (off := a.off) (denL ρ σ new) 0 (denL ρ σ y.cells ++ rest) w (fun u hu => by
          rw [denL_map] at hu
          obtain ⟨z, hz, rfl⟩ := List.mem_map.1 hu
          exact SV.isCell_den (List.all_eq_true.1 hall z hz)) hrow (by simp [denL_length]; omega)
        refine ⟨_, w', ?_, σ, Post.put hr hy'.1 hy'.2.1 hy'.2.2 hnin hle hrow (by simpa using hu), rfl, rfl⟩
        simp only [denL, hden, Option.map_some]
        rw [addr_none hs]
        simp [Builtin.copy_, ht, run_underlying hd, hlx, run_sizeOf hi w, hfn, goInt, SV.den, NE.den, hrun]
    · cases h
  · cases h

def evBi (P : Program) (Γ : Facts) (b : Builtin) (ts : Array TypeId) (args : List SV) (H : Hp) : Option Out := match b, args with
  | .append, args => evAppend P ts args H
  | .copy, args => evCopy P ts args H
  | .len, [x] => do
    let t ← ts[0]?
    let n ← evLenB P t x
    some (.int .i64 (.lit n), H, [])
  | .real, [.complex k a _] => some (.float k a, H, [])
  | .imag, [.complex k _ b] => some (.float k b, H, [])
  | .complex, [.float k a, .float l b] => if k = l then some (.complex k a b, H, []) else none
  | .max, x :: l => (evMaxL Γ true x l).map fun v => (v, H, [])
  | .min, x :: l => (evMaxL Γ false x l).map fun v => (v, H, [])
  | _, _ => none
theorem evBi_ok (hΓ : Γ.Holds P ρ) {σ : Sg} {H : Hp} {w : World} (hr : HRel P ρ σ H w) {b : Builtin} {ts : Array TypeId} {rt : TypeId} {cs : Array Bool} {args : List SV} {r : Out} (h : evBi P Γ b ts args H = some r) (hin : insideL H.length args = true) :
    ORes P ((builtin b ts rt cs (denL ρ σ args).toArray).run P w) (Good P ρ σ H r w) := by
  unfold evBi at h
  split at h
  · obtain ⟨u, w', hrun, hg⟩ := evAppend_ok (rt := rt) hr h hin
    simp only [builtin, Sem.run_bind, hrun, Result.andThen_ok, Sem.run_pure]; exact hg
  · obtain ⟨u, w', hrun, hg⟩ := evCopy_ok (rt := rt) hr h
    simp only [builtin, Sem.run_bind, hrun, Result.andThen_ok, Sem.run_pure]; exact hg
  · simp only [Option.bind_eq_bind, Option.bind_eq_some_iff, Option.some.injEq] at h
    obtain ⟨t, ht, n, hn, rfl⟩ := h
    simp only [builtin, denL, Sem.run_bind, lenB_ok hn ht rt σ w, Result.andThen_ok, Sem.run_pure]
    exact good_same (v := .int .i64 (.lit n)) hr rfl
  · cases h
    have hb : ∀ (k : FloatKind) (x y : Nat), (Builtin.real_ ts rt #[.complex k x y]).run P w = .ok (.float k x) w := fun _ _ _ => rfl
    simp only [builtin, denL, SV.den, hb, Sem.run_bind, Sem.run_pure, Result.andThen_ok]
    exact good_same (v := .float _ _) hr rfl
  · cases h
    have hb : ∀ (k : FloatKind) (x y : Nat), (Builtin.imag_ ts rt #[.complex k x y]).run P w = .ok (.float k y) w := fun _ _ _ => rfl
    simp only [builtin, denL, SV.den, hb, Sem.run_bind, Sem.run_pure, Result.andThen_ok]
    exact good_same (v := .float _ _) hr rfl
  · split at h
    · rename_i hk
      subst hk
      cases h
      have hb : ∀ (k : FloatKind) (x y : Nat), (Builtin.complex_ ts rt #[.float k x, .float k y]).run P w = .ok (.complex k x y) w := by
        intro k x y
        show (if k = k then (pure (.complex k x y) : Sem Value) else _).run P w = _
        rw [if_pos rfl]; rfl
      simp only [builtin, denL, SV.den, hb, Sem.run_bind, Sem.run_pure, Result.andThen_ok]
      exact good_same (v := .complex _ _ _) hr rfl
    · cases h
  · rename_i x l
    obtain ⟨v, hv, rfl⟩ := Option.map_eq_some_iff.1 h
    obtain ⟨h1, h2⟩ := maxL_ok hΓ σ l x v hv
    simp only [if_true] at h1
    simp only [insideL, Bool.and_eq_true] at hin
    simp only [builtin, denL, Builtin.max_, Sem.run_bind, h1 w, Sem.run_pure, Result.andThen_ok]
    exact good_same hr (h2 _ hin.1)
  · rename_i x l
    obtain ⟨v, hv, rfl⟩ := Option.map_eq_some_iff.1 h
    obtain ⟨h1, h2⟩ := maxL_ok hΓ σ l x v hv
    simp only [Bool.false_eq_true, if_false] at h1
    simp only [insideL, Bool.and_eq_true] at hin
    simp only [builtin, denL, Builtin.min_, Sem.run_bind, h1 w, Sem.run_pure, Result.andThen_ok]
    exact good_same hr (h2 _ hin.1)
  · cases h

def evOpt (T : List SV) : Option Operand → Option (Option SV)
  | none => some none
  | some x => (evO T x).map some
theorem evOpt_den {σ : Sg} {n : Nat} {T : List SV} {a : Act} (h : TRel ds ρ σ n T a) {x : Option Operand} {v : Option SV} (hx : evOpt T x = some v) : x.map a.eval = v.map (·.den ρ σ) := by
  cases x with
  | none => cases hx; rfl
  | some x =>
    obtain ⟨u, hu, rfl⟩ := Option.map_eq_some_iff.1 hx
    simp [(evO_den h hu).1]

def newB (cs : List SV) (t : TypeId) (H : Hp) : Hp := H ++ [some ⟨cs, t, false, false, none⟩]

def isPtrD : TypeDesc → Bool
  | .pointer _ => true
  | _ => false
/-- The method of that name; its receiver is the value itself. -/
def evMethod (P : Program) (t : TypeId) (name : String) : Option FuncId := do
  let i ← P.info? t
  let m ← i.methods.find? (·.name == name)
  let d ← P.underlying t
  match m.path.toList, m.func with
  | [], some (f, pr) => if pr = isPtrD d then some f else none
  | _, _ => none
theorem method_ok {t : TypeId} {name : String} {f : FuncId} (h : evMethod P t name = some f) (v : Value) (n : Nat) : Runs P (method (n + 1) t v name) (f, v) := by
  unfold evMethod at h
  simp only [Option.bind_eq_bind, Option.bind_eq_some_iff] at h
  obtain ⟨i, hi, m, hm, d, hd, h⟩ := h
  split at h
  · rename_i g pr hp hf
    split at h
    · rename_i hpr
      cases h
      subst hpr
      intro w
      have h1 : ∀ wr, (receiverAt t (.val v) (isPtrD d) wr).run P w = .ok v w := by
        intro wr
        simp only [receiverAt, Sem.run_bind, run_underlying hd, Result.andThen_ok]
        cases d <;> simp [isPtrD, Place.get]
      simp [method, typeInfo, hi, hm, hp, follow, hf, h1]
    · cases h
  · cases h

def evOp0 (P : Program) (Γ : Facts) (call : CallF) (T : List SV) (H : Hp) (o : Oper) : Option Out :=
  let u (v : Option SV) : Option Out := v.map fun v => (v, H, [])
  match o.op with
  | .move x => u (evO T x)
  | .assign x => u (evO T x)
  | .pick c x y => (match evO T c with
    | some (.bool c) => (match res Γ c with
      | some true => u (evO T x)
      | some false => u (evO T y)
      | none => none)
    | _ => none)
  | .alloc t => (embedZ P t).map fun cs => (.ptr (some ⟨H.length, 0, none⟩), newB cs t H, [])
  | .box t x => (evO T x).map fun v => (.ptr (some ⟨H.length, 0, none⟩), newB v.cells t H, [])
  | .build t ps => u ((evParts T ps.toList).bind fun l => (evBuild P t l).map .agg)
  | .buildSlice t n ps => (evParts T ps.toList).bind fun l => (evBuildSlice P t n l).map fun r => (.slice (some ⟨H.length, 0, none⟩) n n, newB r.2 r.1 H, [])
  | .load t x => u ((evAddr (evO T x)).bind fun a => evLoad P t a H)
  | .store t x y => (evAddr (evO T x)).bind fun a => (evO T y).bind fun v => (evStore P t a v H).map fun r => (uS, r.1, r.2)
  | .nilCheck x => (match evO T x with
    | some (.ptr (some a)) => some (.ptr (some a), H, [])
    | some (.func (.func f) fs cs) => some (.func (.func f) fs cs, H, [])
    | some (.yld b) => some (.yld b, H, [])
    | some (.iface t v) => some (.iface t v, H, [])
    | _ => none)
  | .makeInterface t x => if P.concrete t then u ((evO T x).map (.iface t)) else none
  | .binOp op t x y _ => u ((evO T x).bind fun X => (evO T y).bind fun Y => evBin P Γ op t x y X Y)
  | .unOp op _ x => u ((evO T x).bind fun X => evUn Γ op X)
  | .convert s d x => u ((evO T x).bind fun X => evConv P Γ s d X)
  | .makeFunc fn f c => u ((evOs T f.toList).bind fun f => (evOs T c.toList).map fun c => .func fn f c)
  | .makeSlice t l c => (evO T l).bind fun l => (evO T c).bind fun c => (evMakeSlice P t l c).map fun r => (.slice (some ⟨H.length, 0, none⟩) r.2.2.1 r.2.2.2, newB r.2.1 r.1 H, [])
  | .slice t x lo hi none => u ((evO T x).bind fun X => (evOpt T lo).bind fun lo => (evOpt T hi).bind fun hi => evSlice P t X lo hi)
  | .fieldAddr s x f => u ((evAddr (evO T x)).bind fun a => (evField P s a f).map fun a => .ptr (some a))
  | .field t x f => u ((evO T x).bind fun X => evFieldV P t X f)
  | .indexAddr t x i => u ((evO T x).bind fun X => (evO T i).bind fun I => (evIndexAt P t X I).map fun a => .ptr (some a))
  | .index t x i => u ((evO T x).bind fun X => (evO T i).bind fun I => evIndex P t X I)
  | .extract x i => u ((evO T x).bind fun X => evExtract X i)
  | .call c => (match c.callee with
    | .value f => (match evO T f with
      | some (.func (.func g) fs cs) => if Nat.beq g yieldF then none else (evOs T c.args.toList).bind fun args => call g (fs ++ args ++ cs) H
      | some (.yld b) => (evOs T c.args.toList).bind fun args => call yieldF (.yld b :: args) H
      | _ => none)
    | .builtin b => (evOs T c.args.toList).bind fun args => evBi P Γ b c.argTypes args H
    | .invoke x name => (match evO T x with
      | some (.iface t v) => (evOs T c.args.toList).bind fun args => (evMethod P t name).bind fun m => if Nat.beq m yieldF then none else call m (v :: args) H
      | _ => none))
  | _ => none

theorem ores_val {s : Sem Value} {w w' : World} {u : Value} {G : Value → World → Prop} (h : s.run P w = .ok u w') (hG : G u w') : ORes P ((do pure (Next.value (← s)) : Sem Next).run P w) G := by
  simp only [Sem.run_bind, h, Result.andThen_ok, Sem.run_pure]; exact hG
theorem ores_runs {s : Sem Value} {w : World} {σ : Sg} {H : Hp} {v : SV} (hr : HRel P ρ σ H w) (h : Runs P s (v.den ρ σ)) (hv : v.inside H.length = true) : ORes P ((do pure (Next.value (← s)) : Sem Next).run P w) (Good P ρ σ H (v, H, []) w) :=
  ores_val (h w) (good_same hr hv)
theorem good_new {σ σ' : Sg} {H : Hp} {w w' : World} {cs : List SV} {t : TypeId} {v : SV} (hp : Post P ρ σ σ' H (H ++ [some ⟨cs, t, false, false, none⟩]) [] w w') (hv : v.inside (H.length + 1) = true) : Good P ρ σ H (v, newB cs t H, []) w (v.den ρ σ') w' :=
  ⟨σ', hp, rfl, by simpa [newB] using hv⟩

theorem evOp0_ok (hΓ : Γ.Holds P ρ) {call : CallF} (hc : CallOk P ρ call) {T : List SV} {H : Hp} {o : Oper} {r : Out} (h : evOp0 P Γ call T H o = some r) {σ : Sg} {a : Act} {w : World} (hT : TRel ds ρ σ H.length T a) (hr : HRel P ρ σ H w) :
    ORes P ((execOp a.eval o).run P w) (Good P ρ σ H r w) := by
  obtain ⟨dst, op, ty, pos, after, guard⟩ := o
  unfold evOp0 at h
  cases op <;> simp only at h
  case move x | assign x =>
    obtain ⟨v, hv, rfl⟩ := Option.map_eq_some_iff.1 h
    obtain ⟨e, s⟩ := evO_den hT hv
    simp only [execOp, e, Sem.run_pure]
    exact good_same hr s
  case pick c x y =>
    split at h
    · rename_i c' hc'
      obtain ⟨e, _⟩ := evO_den hT hc'
      split at h
      · rename_i hres
        obtain ⟨v, hv, rfl⟩ := Option.map_eq_some_iff.1 h
        obtain ⟨e2, s2⟩ := evO_den hT hv
        have := res_den hΓ hres
        simp only [execOp, e, e2, SV.den, asBool, this, Sem.run_bind, Sem.run_pure, Result.andThen_ok, if_true]
        exact good_same hr s2
      · rename_i hres
        obtain ⟨v, hv, rfl⟩ := Option.map_eq_some_iff.1 h
        obtain ⟨e2, s2⟩ := evO_den hT hv
        have := res_den hΓ hres
        simp only [execOp, e, e2, SV.den, asBool, this, Sem.run_bind, Sem.run_pure, Result.andThen_ok, Bool.false_eq_true, if_false]
        exact good_same hr s2
      · cases h
    · cases h
  case alloc t =>
    obtain ⟨cs, hcs, rfl⟩ := Option.map_eq_some_iff.1 h
    obtain ⟨z, hz, hzc, hin⟩ := embedZ_ok (ρ := ρ) hcs σ
    obtain ⟨σ', w', hrun, hp⟩ := newRow_ok hr t (hin H.length)
    refine ores_val (u := .pointer (some ⟨σ'.blk H.length, 0, none⟩)) (w' := w') ?_ (good_new (v := .ptr (some ⟨H.length, 0, none⟩)) hp (by simp [SV.inside]))
    simp only [Instr.alloc, newVar, hzc, Sem.run_bind, hz w, Result.andThen_ok, hrun, Sem.run_pure]
  case box t x =>
    obtain ⟨v, hv, rfl⟩ := Option.map_eq_some_iff.1 h
    obtain ⟨e, s⟩ := evO_den hT hv
    obtain ⟨σ', w', hrun, hp⟩ := newRow_ok hr t (SV.cells_inside s)
    refine ores_val (u := .pointer (some ⟨σ'.blk H.length, 0, none⟩)) (w' := w') ?_ (good_new (v := .ptr (some ⟨H.length, 0, none⟩)) hp (by simp [SV.inside]))
    simp only [Instr.box, newVar, e, SV.cells_den _ _ _ (evO_any hv), Sem.run_bind, hrun, Result.andThen_ok, Sem.run_pure]
  case build t ps =>
    obtain ⟨v, hv, rfl⟩ := Option.map_eq_some_iff.1 h
    obtain ⟨l, hl, hv⟩ := Option.bind_eq_some_iff.1 hv
    obtain ⟨cs, hcs, rfl⟩ := Option.map_eq_some_iff.1 hv
    obtain ⟨e, s, sa⟩ := evParts_den hT hl
    obtain ⟨h1, h2⟩ := build_ok (ρ := ρ) (σ := σ) sa hcs (ps := ps.map fun p => (p.1, a.eval p.2)) (by simpa using e)
    exact ores_runs (v := .agg cs) hr h1 (h2 _ s)
  case buildSlice t n ps =>
    obtain ⟨l, hl, h⟩ := Option.bind_eq_some_iff.1 h
    obtain ⟨⟨e', cs⟩, hcs, rfl⟩ := Option.map_eq_some_iff.1 h
    obtain ⟨e, s, sa⟩ := evParts_den hT hl
    obtain ⟨σ', w', hrun, hp⟩ := buildSlice_ok hr sa hcs (ps := ps.map fun p => (p.1, a.eval p.2)) (by simpa using e) s
    exact ores_val hrun (good_new (v := .slice (some ⟨H.length, 0, none⟩) n n) hp (by simp [SV.inside]))
  case load t x =>
    obtain ⟨v, hv, rfl⟩ := Option.map_eq_some_iff.1 h
    obtain ⟨ad, had, hv⟩ := Option.bind_eq_some_iff.1 hv
    obtain ⟨e, s⟩ := evO_den hT (evAddr_some had)
    obtain ⟨h1, h2⟩ := load_ok hr hv
    refine ores_val (u := v.den ρ σ) (w' := w) ?_ (good_same hr h2)
    simp only [Instr.loadAt, e, SV.den, Option.map_some, Instr.sureAddr, Sem.run_bind, Sem.run_pure, Result.andThen_ok, h1]
  case store t x y =>
    obtain ⟨ad, had, h⟩ := Option.bind_eq_some_iff.1 h
    obtain ⟨v, hv, h⟩ := Option.bind_eq_some_iff.1 h
    obtain ⟨⟨H', W⟩, hs, rfl⟩ := Option.map_eq_some_iff.1 h
    obtain ⟨e, s⟩ := evO_den hT (evAddr_some had)
    obtain ⟨e2, s2⟩ := evO_den hT hv
    obtain ⟨w', hrun, hp⟩ := store_ok hr (evO_any hv) s2 hs
    simp only [execOp, Instr.storeAt, e, e2, SV.den, Option.map_some, Instr.sureAddr, Sem.run_bind, Sem.run_pure, Result.andThen_ok]
    rw [hrun]
    exact ⟨σ, hp, rfl, rfl⟩
  case nilCheck x =>
    split at h
    · rename_i ad had
      cases h
      obtain ⟨e, s⟩ := evO_den hT had
      simp only [execOp, e, SV.den, Option.map_some, Sem.run_pure]
      exact good_same (v := .ptr (some ad)) hr s
    · rename_i f fs cs hf
      cases h
      obtain ⟨e, s⟩ := evO_den hT hf
      simp only [execOp, e, SV.den, Sem.run_pure]
      exact good_same (v := .func (.func f) fs cs) hr s
    · rename_i b hf
      cases h
      obtain ⟨e, s⟩ := evO_den hT hf
      simp only [execOp, e, SV.den, Sem.run_pure]
      exact good_same (v := .yld b) hr s
    · rename_i t v ht
      cases h
      obtain ⟨e, s⟩ := evO_den hT ht
      simp only [execOp, e, SV.den, Sem.run_pure]
      exact good_same (v := .iface t v) hr s
    · cases h
  case makeInterface t x =>
    split at h
    · rename_i hc
      obtain ⟨v, hv, rfl⟩ := Option.map_eq_some_iff.1 h
      obtain ⟨X, hX, rfl⟩ := Option.map_eq_some_iff.1 hv
      obtain ⟨e, s⟩ := evO_den hT hX
      simp only [execOp, e]
      exact ores_runs (v := .iface t X) hr (fun w => run_makeInterface w t _ hc) s
    · cases h
  case binOp op t x y yt =>
    obtain ⟨v, hv, rfl⟩ := Option.map_eq_some_iff.1 h
    obtain ⟨X, hX, hv⟩ := Option.bind_eq_some_iff.1 hv
    obtain ⟨Y, hY, hv⟩ := Option.bind_eq_some_iff.1 hv
    obtain ⟨e1, _⟩ := evO_den hT hX
    obtain ⟨e2, _⟩ := evO_den hT hY
    obtain ⟨h1, h2⟩ := evBin_ok hΓ hv σ
    simp only [execOp, e1, e2]
    exact ores_runs hr h1 (h2 _)
  case unOp op t x =>
    obtain ⟨v, hv, rfl⟩ := Option.map_eq_some_iff.1 h
    obtain ⟨X, hX, hv⟩ := Option.bind_eq_some_iff.1 hv
    obtain ⟨e1, _⟩ := evO_den hT hX
    obtain ⟨h1, h2⟩ := evUn_ok (P := P) hΓ hv σ
    simp only [execOp, e1]
    exact ores_runs hr h1 (h2 _)
  case convert s d x =>
    obtain ⟨v, hv, rfl⟩ := Option.map_eq_some_iff.1 h
    obtain ⟨X, hX, hv⟩ := Option.bind_eq_some_iff.1 hv
    obtain ⟨e1, _⟩ := evO_den hT hX
    obtain ⟨h1, h2⟩ := evConv_ok hΓ hv σ
    simp only [execOp, e1]
    exact ores_runs hr h1 (h2 _)
  case makeFunc fn f c =>
    obtain ⟨v, hv, rfl⟩ := Option.map_eq_some_iff.1 h
    obtain ⟨fs, hf, hv⟩ := Option.bind_eq_some_iff.1 hv
    obtain ⟨cs, hc', rfl⟩ := Option.map_eq_some_iff.1 hv
    obtain ⟨e1, s1⟩ := evOs_den hT hf
    obtain ⟨e2, s2⟩ := evOs_den hT hc'
    have g1 : f.map a.eval = (denL ρ σ fs).toArray := by rw [← e1, map_arr]
    have g2 : c.map a.eval = (denL ρ σ cs).toArray := by rw [← e2, map_arr]
    refine ores_runs (v := .func fn fs cs) hr (fun w => ?_) (by simp [SV.inside, s1, s2])
    simp only [Instr.makeFunc, g1, g2, Sem.run_pure, SV.den]
  case makeSlice t l c =>
    obtain ⟨L, hL, h⟩ := Option.bind_eq_some_iff.1 h
    obtain ⟨C, hC, h⟩ := Option.bind_eq_some_iff.1 h
    obtain ⟨⟨e', cs, n, m⟩, hcs, rfl⟩ := Option.map_eq_some_iff.1 h
    obtain ⟨e1, _⟩ := evO_den hT hL
    obtain ⟨e2, _⟩ := evO_den hT hC
    obtain ⟨σ', w', hrun, hp⟩ := makeSlice_ok hr hcs
    simp only [execOp, e1, e2]
    exact ores_val hrun (good_new (v := .slice (some ⟨H.length, 0, none⟩) n m) hp (by simp [SV.inside]))
  case slice t x lo hi mx =>
    cases mx with
    | some m => cases h
    | none =>
      simp only at h
      obtain ⟨v, hv, rfl⟩ := Option.map_eq_some_iff.1 h
      obtain ⟨X, hX, hv⟩ := Option.bind_eq_some_iff.1 hv
      obtain ⟨L, hL, hv⟩ := Option.bind_eq_some_iff.1 hv
      obtain ⟨R, hR, hv⟩ := Option.bind_eq_some_iff.1 hv
      obtain ⟨e1, s1⟩ := evO_den hT hX
      obtain ⟨h1, h2⟩ := slice_ok (P := P) (ρ := ρ) (σ := σ) hv
      simp only [execOp, e1, evOpt_den hT hL, evOpt_den hT hR, Option.map_none]
      exact ores_runs hr h1 (h2 _ s1)
  case fieldAddr s x f =>
    obtain ⟨v, hv, rfl⟩ := Option.map_eq_some_iff.1 h
    obtain ⟨ad, had, hv⟩ := Option.bind_eq_some_iff.1 hv
    obtain ⟨ad', had', rfl⟩ := Option.map_eq_some_iff.1 hv
    obtain ⟨e, s'⟩ := evO_den hT (evAddr_some had)
    obtain ⟨h1, h2⟩ := field_ok (σ := σ) had'
    simp only [execOp, e]
    have := of_decide_eq_true s'
    exact ores_runs (v := .ptr (some ad')) hr h1 (decide_eq_true (by rw [h2]; exact this))
  case field t x f =>
    obtain ⟨v, hv, rfl⟩ := Option.map_eq_some_iff.1 h
    obtain ⟨X, hX, hv⟩ := Option.bind_eq_some_iff.1 hv
    obtain ⟨e1, s1⟩ := evO_den hT hX
    obtain ⟨h1, h2⟩ := fieldV_ok (P := P) (ρ := ρ) (σ := σ) hv
    simp only [execOp, e1]
    exact ores_runs hr h1 (h2 _ s1)
  case indexAddr t x i =>
    obtain ⟨v, hv, rfl⟩ := Option.map_eq_some_iff.1 h
    obtain ⟨X, hX, hv⟩ := Option.bind_eq_some_iff.1 hv
    obtain ⟨I, hI, hv⟩ := Option.bind_eq_some_iff.1 hv
    obtain ⟨ad, had, rfl⟩ := Option.map_eq_some_iff.1 hv
    obtain ⟨e1, s1⟩ := evO_den hT hX
    obtain ⟨e2, _⟩ := evO_den hT hI
    obtain ⟨h1, h2⟩ := indexAt_ok (P := P) (ρ := ρ) (σ := σ) had
    simp only [execOp, e1, e2]
    exact ores_runs (v := .ptr (some ad)) hr h1 (decide_eq_true (h2 _ s1))
  case index t x i =>
    obtain ⟨v, hv, rfl⟩ := Option.map_eq_some_iff.1 h
    obtain ⟨X, hX, hv⟩ := Option.bind_eq_some_iff.1 hv
    obtain ⟨I, hI, hv⟩ := Option.bind_eq_some_iff.1 hv
    obtain ⟨e1, s1⟩ := evO_den hT hX
    obtain ⟨e2, _⟩ := evO_den hT hI
    obtain ⟨h1, h2⟩ := index_ok (P := P) (ρ := ρ) (σ := σ) hv
    simp only [execOp, e1, e2]
    exact ores_runs hr h1 (h2 _ s1)
  case extract x i =>
    obtain ⟨v, hv, rfl⟩ := Option.map_eq_some_iff.1 h
    obtain ⟨X, hX, hv⟩ := Option.bind_eq_some_iff.1 hv
    obtain ⟨e1, s1⟩ := evO_den hT hX
    obtain ⟨h1, h2⟩ := extract_ok (P := P) (ρ := ρ) (σ := σ) hv
    simp only [execOp, e1]
    exact ores_runs hr h1 (h2 _ s1)
  case call c =>
    obtain ⟨callee, args, ats⟩ := c
    cases callee with
    | invoke x name =>
      simp only at h
      split at h
      · rename_i t v hx
        obtain ⟨vs, hvs, h⟩ := Option.bind_eq_some_iff.1 h
        obtain ⟨f, hm, h⟩ := Option.bind_eq_some_iff.1 h
        split at h
        · cases h
        rename_i hy
        have hy : Nat.beq f yieldF = false := eq_false_of_ne_true hy
        obtain ⟨e, s⟩ := evOs_den hT hvs
        obtain ⟨e1, s1⟩ := evO_den hT hx
        have g' : args.map a.eval = (denL ρ σ vs).toArray := by rw [← e, map_arr]
        obtain ⟨n, hn⟩ : ∃ n, P.types.size + Made.depth = n + 1 := ⟨P.types.size + 99, rfl⟩
        have h1 := method_ok hm (v.den ρ σ) n
        have := hc f (v :: vs) H r h σ w hr (by simp only [insideL, Bool.and_eq_true]; exact ⟨s1, s⟩)
        rw [callY_ne hy] at this
        simp only [execOp, resolve, g', e1, SV.den, Sem.run_bind, Sem.run_pure, Result.andThen_ok, invoke]
        simp only [List.getElem?_toArray, List.append_toArray, List.cons_append, List.nil_append, List.getElem?_cons_zero, callMethod, Sem.run_bind, run_program, Result.andThen_ok, hn, h1 w]
        simpa [denL] using this
      · cases h
    | builtin b =>
      simp only at h
      obtain ⟨vs, hvs, h⟩ := Option.bind_eq_some_iff.1 h
      obtain ⟨e, s⟩ := evOs_den hT hvs
      have g : args.map a.eval = (denL ρ σ vs).toArray := by rw [← e, map_arr]
      have := evBi_ok hΓ hr (rt := ty) (cs := args.map fun | .const _ => true | _ => false) h s
      simp only [execOp, resolve, g, Sem.run_bind, Sem.run_pure, Result.andThen_ok, invoke]
      exact this
    | value f =>
      simp only at h
      split at h
      · rename_i g fs cs hf
        split at h
        · cases h
        rename_i hy
        have hy : Nat.beq g yieldF = false := eq_false_of_ne_true hy
        obtain ⟨vs, hvs, h⟩ := Option.bind_eq_some_iff.1 h
        obtain ⟨e, s⟩ := evOs_den hT hvs
        obtain ⟨e1, s1⟩ := evO_den hT hf
        have g' : args.map a.eval = (denL ρ σ vs).toArray := by rw [← e, map_arr]
        simp only [SV.inside, Bool.and_eq_true] at s1
        have := hc g (fs ++ vs ++ cs) H r h σ w hr (insideL_of fun v hv => by
          rcases List.mem_append.1 hv with hv | hv
          · rcases List.mem_append.1 hv with hv | hv
            · exact insideL_mem s1.1 hv
            · exact insideL_mem s hv
          · exact insideL_mem s1.2 hv)
        rw [callY_ne hy] at this
        simp only [execOp, resolve, g', e1, SV.den, Deferred.ofValue, Sem.run_bind, Sem.run_pure, Result.andThen_ok, invoke]
        simpa [denL_append] using this
      · rename_i b hf
        obtain ⟨vs, hvs, h⟩ := Option.bind_eq_some_iff.1 h
        obtain ⟨e, s⟩ := evOs_den hT hvs
        obtain ⟨e1, s1⟩ := evO_den hT hf
        have g' : args.map a.eval = (denL ρ σ vs).toArray := by rw [← e, map_arr]
        have := hc yieldF (.yld b :: vs) H r h σ w hr (by simp only [insideL, Bool.and_eq_true]; exact ⟨s1, s⟩)
        simp only [callY, denL, SV.den, if_true] at this
        simp only [execOp, resolve, g', e1, SV.den, Deferred.ofValue, Sem.run_bind, Sem.run_pure, Result.andThen_ok, invoke]
        simpa using this
      · cases h
  all_goals cases h

/-- A row of numbers, told one by one. -/
def arrC : Nat → List NE → NE
  | _, [] => .acst (.lit 0)
  | k, x :: l => .aupd (arrC (k + 1) l) (.lit k) x
theorem arrC_get : ∀ (l : List NE) (k : Nat) (j : Nat) (x : NE), l[j]? = some x → (arrC k l).aden ρ ((k + j : Nat) : Int) = x.den ρ
  | [], k, j, x, h => by simp at h
  | y :: l, k, 0, x, h => by simp at h; subst h; simp [arrC, NE.aden, NE.den]
  | y :: l, k, j + 1, x, h => by
    have := arrC_get l (k + 1) j x (by simpa using h)
    have hne : ¬ ((k + (j + 1) : Nat) : Int) = (NE.lit (k : Int)).den ρ := by simp only [NE.den]; omega
    simp only [arrC, NE.aden]
    rw [if_neg hne, ← this]
    congr 1; omega
def intsOf (k : IntKind) : List SV → Option (List NE)
  | [] => some []
  | .int k' e :: l => if k = k' then (intsOf k l).map (e :: ·) else none
  | _ => none
theorem intsOf_get {k : IntKind} : ∀ {l : List SV} {r : List NE}, intsOf k l = some r → ∀ j : Nat, l[j]? = (r[j]?).map (.int k)
  | [], r, h, j => by simp only [intsOf] at h; cases h; simp
  | v :: l, r, h, j => by
    unfold intsOf at h
    split at h
    · rename_i heq; cases heq
    · rename_i k' e l' heq
      cases heq
      split at h
      · rename_i hk
        subst hk
        obtain ⟨s, hs, rfl⟩ := Option.map_eq_some_iff.1 h
        cases j with
        | zero => simp
        | succ j => simpa using intsOf_get hs j
      · cases h
    · cases h
def flosOf (k : FloatKind) : List SV → Option (List NE × List NE)
  | [] => some ([], [])
  | .complex k' e f :: l => if k = k' then (flosOf k l).map fun r => (e :: r.1, f :: r.2) else none
  | _ => none
theorem flosOf_get {k : FloatKind} : ∀ {l : List SV} {r : List NE × List NE}, flosOf k l = some r → ∀ j : Nat, j < l.length → ∃ e f, l[j]? = some (.complex k e f) ∧ r.1[j]? = some e ∧ r.2[j]? = some f
  | [], r, h, j, hj => by simp at hj
  | v :: l, r, h, j, hj => by
    unfold flosOf at h
    split at h
    · rename_i heq; cases heq
    · rename_i k' e f l' heq
      cases heq
      split at h
      · rename_i hk
        subst hk
        obtain ⟨s, hs, rfl⟩ := Option.map_eq_some_iff.1 h
        cases j with
        | zero => exact ⟨e, f, by simp, by simp, by simp⟩
        | succ j => simpa using flosOf_get hs j (by simpa using hj)
      · cases h
    · cases h
def sLen (e : NE) : NE := .bin .sLen e (.lit 0)
def evIndexS (P : Program) (Γ : Facts) (t : TypeId) (x i : SV) : Option SV := match i with
  | .int _ j => do
    let d ← P.underlying t
    match d, x with
    | .array len e, .agg cs => do
      let ti ← P.info? e
      let de ← P.underlying e
      if ti.size = 1 ∧ aggD de = false ∧ cs.length = len ∧ inR Γ j (.lit len) = true then (match cs with
        | .int k _ :: _ => (intsOf k cs).map fun l => .int k (mkSel (arrC 0 l) j)
        | .complex k _ _ :: _ => (flosOf k cs).map fun l => .complex k (mkSel (arrC 0 l.1) j) (mkSel (arrC 0 l.2) j)
        | _ => none) else none
    | .string, x => do
      let e ← strCode x
      if inR Γ j (sLen e) = true then some (.int .u8 (.bin .sAt e j)) else none
    | _, _ => none
  | _ => none
theorem atS_get {s : ByteArray} {i : Int} (h0 : 0 ≤ i) (h1 : i < s.size) : ∃ b : UInt8, s[i.toNat]? = some b ∧ atS s i = b.toNat := by
  have hlt : i.toNat < s.size := by omega
  refine ⟨s[i.toNat], by simp [hlt], ?_⟩
  unfold atS
  rw [if_pos h0]
  simp [hlt]
theorem indexS_ok (hΓ : Γ.Holds P ρ) {σ : Sg} {t : TypeId} {x i v : SV} (h : evIndexS P Γ t x i = some v) : Runs P (Instr.index t (x.den ρ σ) (i.den ρ σ)) (v.den ρ σ) ∧ ∀ m, v.inside m = true := by
  unfold evIndexS at h
  split at h
  · rename_i kj j
    simp only [Option.bind_eq_bind, Option.bind_eq_some_iff] at h
    obtain ⟨d, hd, h⟩ := h
    split at h
    · rename_i len e cs
      simp only [Option.bind_eq_some_iff, Option.ite_none_right_eq_some] at h
      obtain ⟨ti, hi, de, hde, ⟨hsz, hagg, hlen, hin⟩, h⟩ := h
      obtain ⟨h0, h1⟩ := inR_ok hΓ hin
      simp only [NE.den] at h1
      have hj : (j.den ρ).toNat < cs.length := by omega
      have hpart : ∀ u : SV, cs[(j.den ρ).toNat]? = some u → Runs P (Instr.index t ((SV.agg cs).den ρ σ) ((SV.int kj j).den ρ σ)) (u.den ρ σ) := by
        intro u hu
        have hp : partS P e cs ((j.den ρ).toNat * ti.size) = some u := by
          unfold partS
          rw [hde]
          simp only [hagg, Bool.false_eq_true, if_false, hsz, Nat.mul_one]
          exact hu
        obtain ⟨hr, _⟩ := part_ok (ρ := ρ) hp σ
        intro w
        simp [SV.den, Instr.index, asIntOf, run_underlying hd, h0, h1, run_sizeOf hi w, hr w]
      split at h
      · rename_i k e0 rest
        obtain ⟨l, hl, rfl⟩ := Option.map_eq_some_iff.1 h
        refine ⟨?_, fun _ => rfl⟩
        have hg := intsOf_get hl (j.den ρ).toNat
        obtain ⟨u, hu⟩ : ∃ u, (SV.int k e0 :: rest)[(j.den ρ).toNat]? = some u := ⟨_, List.getElem?_eq_getElem hj⟩
        rw [hu] at hg
        obtain ⟨n, hn, rfl⟩ := Option.map_eq_some_iff.1 hg.symm
        have := arrC_get (ρ := ρ) l 0 (j.den ρ).toNat n hn
        have e1 : ((0 + (j.den ρ).toNat : Nat) : Int) = j.den ρ := by omega
        rw [e1] at this
        have h2 := hpart _ hu
        simp only [SV.den, mkSel_den, this] at h2 ⊢
        exact h2
      · rename_i k e0 f0 rest
        obtain ⟨l, hl, rfl⟩ := Option.map_eq_some_iff.1 h
        refine ⟨?_, fun _ => rfl⟩
        obtain ⟨a, b, hu, ha, hb⟩ := flosOf_get hl (j.den ρ).toNat hj
        have g1 := arrC_get (ρ := ρ) l.1 0 (j.den ρ).toNat a ha
        have g2 := arrC_get (ρ := ρ) l.2 0 (j.den ρ).toNat b hb
        have e1 : ((0 + (j.den ρ).toNat : Nat) : Int) = j.den ρ := by omega
        rw [e1] at g1 g2
        have h2 := hpart _ hu
        simp only [SV.den, mkSel_den, g1, g2] at h2 ⊢
        exact h2
      · cases h
    · simp only [Option.bind_eq_some_iff, Option.ite_none_right_eq_some, Option.some.injEq] at h
      obtain ⟨e, he, hin, rfl⟩ := h
      obtain ⟨h0, h1⟩ := inR_ok hΓ hin
      simp only [sLen, NE.den, NOp.den] at h1
      obtain ⟨b, hb, ha⟩ := atS_get h0 h1
      refine ⟨fun w => ?_, fun _ => rfl⟩
      rw [strCode_den he σ]
      simp [SV.den, NE.den, NOp.den, Instr.index, asIntOf, run_underlying hd, h0, hb, ha]
    · cases h
  · cases h

def evLenR (P : Program) (Γ : Facts) (t : TypeId) (x : SV) (H : Hp) : Option NE := match P.underlying t, x with
  | some (.slice _), .asl b n => (rowOf H b n).map fun _ => n
  | some (.slice _), .rsl b _ lo hi => (getA H b).bind fun q => if res Γ (mkIcmp .leq (.lit 0) lo) == some true && (res Γ (mkIcmp .leq lo hi) == some true && res Γ (mkIcmp .leq hi q.2.n) == some true) then some (nf Γ (mkBin .subI hi lo)) else none
  | some .string, .strn e => some (sLen e)
  | _, _ => none
theorem lenR_ok (hΓ : Γ.Holds P ρ) {σ : Sg} {H : Hp} {w : World} (hr : HRel P ρ σ H w) {t : TypeId} {x : SV} {n : NE} (h : evLenR P Γ t x H = some n) {ts : Array TypeId} (ht : ts[0]? = some t) (rt : TypeId) : (Builtin.len_ ts rt #[x.den ρ σ]).run P w = .ok (.int .i64 (n.den ρ)) w := by
  unfold evLenR at h
  split at h
  · rename_i b m hu
    obtain ⟨q, hq, rfl⟩ := Option.map_eq_some_iff.1 h
    obtain ⟨nn, hs⟩ := hr.slice hq
    rcases hs with ⟨a, hg, hz, he⟩ | ⟨hg, he⟩
    · rw [he, hz]; simp [Builtin.len_, ht, run_underlying hu, goInt]
    · rw [he]; simp [Builtin.len_, ht, run_underlying hu, goInt, Int.toNat_of_nonneg nn]
  · rename_i b st lo hi hu
    obtain ⟨⟨x, A⟩, hq, h⟩ := Option.bind_eq_some_iff.1 h
    simp only [Option.ite_none_right_eq_some, Option.some.injEq, Bool.and_eq_true, beq_iff_eq] at h
    obtain ⟨⟨k0, k1, k2⟩, rfl⟩ := h
    have le : ∀ {a b : NE}, res Γ (mkIcmp .leq a b) = some true → a.den ρ ≤ b.den ρ := fun h => by
      have h1 := res_den hΓ h
      rw [mkIcmp_den] at h1
      exact of_decide_eq_true h1
    have k0 := le k0
    have k1 := le k1
    have k2 := le k2
    simp only [NE.den] at k0
    have R := hr.row hq
    have en : (nf Γ (mkBin .subI hi lo)).den ρ = hi.den ρ - lo.den ρ := by rw [nf_den hΓ, mkBin_den]; rfl
    rw [en]
    cases hg : σ.gh b with
    | some a =>
      have hz := R.gh a hg
      simp only [SV.den, hg]
      have : hi.den ρ - lo.den ρ = 0 := by omega
      rw [this]
      simp [Builtin.len_, ht, run_underlying hu, goInt]
    | none =>
      have : (((hi.den ρ - lo.den ρ).toNat : Nat) : Int) = hi.den ρ - lo.den ρ := by omega
      simp only [SV.den, hg]
      simp [Builtin.len_, ht, run_underlying hu, goInt, this]
  · rename_i hu
    cases h
    simp [Builtin.len_, ht, run_underlying hu, goInt, SV.den, sLen, NE.den, NOp.den]
  · cases h

/-- A slice with elements is not nil. -/
def evNil (P : Program) (Γ : Facts) (op : BinOp) (t : TypeId) (X Y : SV) (H : Hp) : Option SV := match isEqOp op, X, Y with
  | some pos, .asl b n, .slice none 0 0 => (match P.underlying t, rowOf H b n, iv Γ.dom n with
    | some (.slice _), some _, some r => if 1 ≤ r.1 ∧ P.eqGuardType P.depth t = false then some (.bool (if pos then .lit false else mkNot (.lit false))) else none
    | _, _, _ => none)
  | _, _, _ => none
theorem nil_ok (hΓ : Γ.Holds P ρ) {σ : Sg} {H : Hp} {w : World} (hr : HRel P ρ σ H w) {op : BinOp} {t : TypeId} {x y : Operand} {X Y v : SV} (h : evNil P Γ op t X Y H = some v) :
    Runs P (do eqGuard op t x y (X.den ρ σ) (Y.den ρ σ); binOp op t (X.den ρ σ) (Y.den ρ σ)) (v.den ρ σ) ∧ ∀ n, v.inside n = true := by
  unfold evNil at h
  split at h
  · rename_i pos b n hop
    split at h
    · rename_i e q r hd hq hi
      split at h
      · rename_i hc
        cases h
        obtain ⟨nn, hs⟩ := hr.slice hq
        have hiv := (iv_ok hΓ.dom hi).1
        rcases hs with ⟨a, hg, hz, he⟩ | ⟨hg, he⟩
        · omega
        · have e1 : (SV.asl b n).den ρ σ = (SV.slice (some ⟨b, σ.off b, none⟩) (n.den ρ).toNat (σ.cap b)).den ρ σ := by rw [he]; rfl
          rw [e1]
          have := genEq_ok (P := P) (ρ := ρ) hop (t := t) (x := x) (y := y) (X := .slice (some ⟨b, σ.off b, none⟩) (n.den ρ).toNat (σ.cap b)) (Y := .slice none 0 0) rfl hc.2 (b := .lit false) (by simp [eqS, hd]) σ
          exact ⟨this, fun _ => rfl⟩
      · cases h
    · cases h
  · cases h
/-- The slice x[:0:0]: nothing, there. -/
def zeroB (x : Option SV) : Bool := match x with
  | none => false
  | some v => litI v == some 0
def zeroL (x : Option SV) : Bool := match x with
  | none => true
  | some v => litI v == some 0
theorem bound0 {σ : Sg} {v : SV} {y : Nat} {c : BoundsCode} (h : (litI v == some 0) = true) : Runs P (Instr.sliceBound (v.den ρ σ) y c) 0 := by
  intro w
  obtain ⟨k, hk⟩ := litI_den (ρ := ρ) (eq_of_beq h) σ
  simp [Instr.sliceBound, hk, asIntOf]
theorem bounds0 {σ : Sg} {len cap : Nat} {lo hi mx : Option SV} (h1 : zeroL lo = true) (h2 : zeroB hi = true) (h3 : zeroB mx = true) :
    Runs P (Instr.sliceBounds true len cap (lo.map (·.den ρ σ)) (hi.map (·.den ρ σ)) (mx.map (·.den ρ σ))) (0, 0, 0) := by
  intro w
  cases hi with
  | none => cases h2
  | some u =>
    cases mx with
    | none => cases h3
    | some m =>
      have b2 : ∀ y c w, (Instr.sliceBound (u.den ρ σ) y c).run P w = .ok 0 w := fun y c w => bound0 h2 w
      have b3 : ∀ y c w, (Instr.sliceBound (m.den ρ σ) y c).run P w = .ok 0 w := fun y c w => bound0 h3 w
      cases lo with
      | none => simp [Instr.sliceBounds, b2, b3]
      | some l =>
        have b1 : ∀ y c w, (Instr.sliceBound (l.den ρ σ) y c).run P w = .ok 0 w := fun y c w => bound0 h1 w
        simp [Instr.sliceBounds, b1, b2, b3]
def evSlice3 (P : Program) (t : TypeId) (X : SV) (lo hi mx : Option SV) (H : Hp) : Option Out :=
  if zeroL lo && (zeroB hi && zeroB mx) then (match P.underlying t, X with
    | some (.slice e), .asl b n => (match P.info? e, rowOf H b n with
      | some _, some q => some (.asl H.length (.lit 0), H ++ [some ⟨[], e, false, true, some ⟨.lit 0, q.2.sh, zeroC q.2.sh⟩⟩], [])
      | _, _ => none)
    | some (.slice e), .slice a len cap => (match P.info? e with
      | some _ => some (.slice a 0 0, H, [])
      | none => none)
    | _, _ => none) else none
theorem slice3_ok {σ : Sg} {H : Hp} {w : World} (hr : HRel P ρ σ H w) {t : TypeId} {X : SV} {lo hi mx : Option SV} {r : Out} (hX : X.inside H.length = true) (h : evSlice3 P t X lo hi mx H = some r) :
    ∃ u, (Instr.sliceAt t (X.den ρ σ) (lo.map (·.den ρ σ)) (hi.map (·.den ρ σ)) (mx.map (·.den ρ σ))).run P w = .ok u w ∧ Good P ρ σ H r w u w := by
  unfold evSlice3 at h
  split at h
  · rename_i hz
    simp only [Bool.and_eq_true] at hz
    split at h
    · rename_i e b n hd
      split at h
      · rename_i i q hi' hq
        cases h
        have hex : ∃ (A : Option Addr) (l c : Nat), (SV.asl b n).den ρ σ = .slice A l c := by
          simp only [SV.den]; split <;> exact ⟨_, _, _, rfl⟩
        obtain ⟨A, l, c, hA⟩ := hex
        refine ⟨.slice A 0 0, ?_, σ.snocP H.length ⟨0, 0, 0, some A⟩, Post.add (w' := w) hr _ _ rfl (fun h => by cases h)
          (BlkAt.ofRows rfl rfl fun B hB => by
            simp only [Option.some.injEq] at hB; subst hB
            exact ⟨by simp [NE.den], zeroC_fit _, (fun _ _ => by simp [NE.den]), (fun h => by cases h), (fun h => by cases h)⟩) rfl rfl rfl (Nat.le_refl _) fun _ _ => rfl, ?_, by simp [SV.inside]⟩
        · rw [hA]
          simp only [Instr.sliceAt, Instr.slice, Sem.run_bind, run_underlying hd, Result.andThen_ok, bounds0 hz.1 hz.2.1 hz.2.2 w, run_sizeOf hi' w, Sem.run_pure, if_true, Nat.sub_self]
        · simp [SV.den, Sg.snocP]
      · cases h
    · rename_i e a len cap hd
      split at h
      · rename_i i hi'
        cases h
        refine ⟨_, ?_, good_same (v := .slice a 0 0) hr (by cases a <;> exact hX)⟩
        simp only [SV.den, Instr.sliceAt, Instr.slice, Sem.run_bind, run_underlying hd, Result.andThen_ok, bounds0 hz.1 hz.2.1 hz.2.2 w, run_sizeOf hi' w, Sem.run_pure, if_true, Nat.sub_self]
      · cases h
    · cases h
  · cases h
/-- Parts of slices that grew. -/
def evSliceV (P : Program) (t : TypeId) (X : SV) (lo hi : Option SV) (H : Hp) : Option SV := match P.underlying t, X with
  | some (.slice e), .vec b len => (P.info? e).bind fun i => (getC H b).bind fun y => if y.opn = true ∧ y.elem = e ∧ 0 < i.size then (evBound hi len (y.cells.length / i.size)).bind fun h => (evBound lo 0 h).bind fun l =>
      if h ≤ y.cells.length / i.size then (if l = 0 then some (.vec b h) else some (.vsl b i.size l (h - l))) else none
    else none
  | some (.slice e), .vsl b st lo0 len => (P.info? e).bind fun i => (getC H b).bind fun y => if y.opn = true ∧ y.elem = e ∧ 0 < i.size ∧ st = i.size then (evBound hi len (y.cells.length / i.size - lo0)).bind fun h => (evBound lo 0 h).bind fun l =>
      if lo0 + h ≤ y.cells.length / i.size ∧ (l < h ∨ l = 0) then some (.vsl b st (lo0 + l) (h - l)) else none
    else none
  | _, _ => none
theorem bound_mono {x : Option SV} {d y z h : Nat} (hb : evBound x d y = some h) (hz : y ≤ z) : evBound x d z = some h := by
  unfold evBound at hb ⊢
  cases x with
  | none => exact hb
  | some v =>
    simp only [Option.bind_eq_bind, Option.bind_eq_some_iff, Option.ite_none_right_eq_some, Option.some.injEq] at hb ⊢
    obtain ⟨i, hi, ⟨h0, h1⟩, rfl⟩ := hb
    exact ⟨i, hi, ⟨h0, by omega⟩, rfl⟩
theorem capV {σ : Sg} {H : Hp} {w : World} (hr : HRel P ρ σ H w) {b : Nat} {y : Blk} (hy : getC H b = some y) (ho : y.opn = true) {i : TypeInfo} (hi : P.info? y.elem = some i) (hs : 0 < i.size) : y.cells.length / i.size ≤ σ.cap b := by
  obtain ⟨_, rest, _, _, _, hopn, _⟩ := hr.conR hy
  have := hopn ho
  have hcs : P.cellsOf y.elem = i.size := by simp [Program.cellsOf, hi]
  rw [hcs] at this
  exact Nat.div_le_of_le_mul (by rw [Nat.mul_comm]; omega)
theorem sliceV_ok {σ : Sg} {H : Hp} {w : World} (hr : HRel P ρ σ H w) {t : TypeId} {X v : SV} {lo hi : Option SV} (h : evSliceV P t X lo hi H = some v) :
    (Instr.sliceAt t (X.den ρ σ) (lo.map (·.den ρ σ)) (hi.map (·.den ρ σ)) none).run P w = .ok (v.den ρ σ) w ∧ ∀ m, X.inside m = true → v.inside m = true := by
  unfold evSliceV at h
  split at h
  · rename_i e b len hd
    simp only [Option.bind_eq_some_iff, Option.ite_none_right_eq_some] at h
    obtain ⟨i, hi', y, hy, ⟨ho, rfl, hs⟩, h', hh, l, hl, hle, h⟩ := h
    have hcap := capV hr hy ho hi' hs
    have hb := bounds_ok (P := P) (ρ := ρ) (σ := σ) (isS := true) (bound_mono hh hcap) hl
    split at h
    · rename_i h0
      cases h
      subst h0
      refine ⟨?_, fun m hm => hm⟩
      simp only [SV.den, Instr.sliceAt, Instr.slice, Sem.run_bind, run_underlying hd, Result.andThen_ok, Instr.sureAddr, Sem.run_pure, hb w, run_sizeOf hi' w, addr_add, Option.map_some]
      simp
    · rename_i h0
      cases h
      refine ⟨?_, fun m hm => hm⟩
      simp only [SV.den, Instr.sliceAt, Instr.slice, Sem.run_bind, run_underlying hd, Result.andThen_ok, Instr.sureAddr, Sem.run_pure, hb w, run_sizeOf hi' w, addr_add, Option.map_some]
      split <;> simp [*]
  · rename_i e b st lo0 len hd
    simp only [Option.bind_eq_some_iff, Option.ite_none_right_eq_some, Option.some.injEq] at h
    obtain ⟨i, hi', y, hy, ⟨ho, rfl, hs, rfl⟩, h', hh, l, hl, ⟨hle, hlh⟩, rfl⟩ := h
    have hcap := capV hr hy ho hi' hs
    have hb := bounds_ok (P := P) (ρ := ρ) (σ := σ) (isS := true) (bound_mono hh (show _ ≤ σ.cap b - lo0 by omega)) hl
    refine ⟨?_, fun m hm => hm⟩
    simp only [SV.den, Instr.sliceAt, Instr.slice, Sem.run_bind, run_underlying hd, Result.andThen_ok, Instr.sureAddr, Sem.run_pure, hb w, run_sizeOf hi' w, addr_add, Option.map_some]
    have e2 : σ.cap b - lo0 - l = σ.cap b - (lo0 + l) := by omega
    rw [e2]
    rcases hlh with hlh | h0
    · rw [if_neg (show ¬ (σ.cap b - lo0 = l) by omega), if_neg (show ¬ (σ.cap b = lo0) by omega), if_neg (show ¬ (σ.cap b = lo0 + l) by omega), Nat.add_mul]
    · subst h0
      by_cases hc : σ.cap b = lo0
      · rw [if_pos (show σ.cap b - lo0 = 0 by omega), if_pos hc, if_pos (show σ.cap b = lo0 + 0 by omega)]
      · rw [if_neg (show ¬ (σ.cap b - lo0 = 0) by omega), if_neg hc, if_neg (show ¬ (σ.cap b = lo0 + 0) by omega)]; simp
  · cases h
def evIndexV (P : Program) (t : TypeId) (X I : SV) (H : Hp) : Option SV := match P.underlying t, X with
  | some (.slice e), .vsl b st lo len => (litI I).bind fun n => (P.info? e).bind fun i => (getC H b).bind fun y => if y.opn = true ∧ y.elem = e ∧ 0 < i.size ∧ st = i.size ∧ 0 ≤ n ∧ n < len ∧ lo + len ≤ y.cells.length / i.size then some (.ptr (some ⟨b, (lo + n.toNat) * st, none⟩)) else none
  | _, _ => none
theorem indexV_ok {σ : Sg} {H : Hp} {w : World} (hr : HRel P ρ σ H w) {t : TypeId} {X I v : SV} (h : evIndexV P t X I H = some v) :
    (Instr.indexAt t (X.den ρ σ) (I.den ρ σ)).run P w = .ok (v.den ρ σ) w ∧ ∀ m, X.inside m = true → v.inside m = true := by
  unfold evIndexV at h
  split at h
  · rename_i e b st lo len hd
    simp only [Option.bind_eq_some_iff, Option.ite_none_right_eq_some, Option.some.injEq] at h
    obtain ⟨n, hn, i, hi', y, hy, ⟨ho, rfl, hs, rfl, h0, h1, hle⟩, rfl⟩ := h
    have hcap := capV hr hy ho hi' hs
    obtain ⟨k, hk⟩ := litI_den (ρ := ρ) hn σ
    rw [hk]
    refine ⟨?_, fun m hm => hm⟩
    have e1 : ((SV.ptr (some ⟨b, (lo + n.toNat) * i.size, none⟩)).den ρ σ) = .pointer (some ⟨σ.blk b, (lo + n.toNat) * i.size, none⟩) := by simp only [SV.den, Option.map_some]; rw [addr_none rfl]
    rw [e1]
    simp only [SV.den]
    rw [if_neg (show ¬ (σ.cap b = lo) by omega)]
    simp [Instr.indexAt, asIntOf, run_underlying hd, Instr.sureAddr, h0, h1, run_sizeOf hi' w, addr_add, Nat.add_mul]
  · cases h
/-- Whether a number surely is at most another one. -/
def leR (Γ : Facts) (a b : NE) : Bool := res Γ (mkIcmp .leq a b) == some true
theorem leR_ok (hΓ : Γ.Holds P ρ) {a b : NE} (h : leR Γ a b = true) : a.den ρ ≤ b.den ρ := by
  have h1 := res_den hΓ (eq_of_beq h)
  rw [mkIcmp_den] at h1
  exact of_decide_eq_true h1
def evB (x : Option SV) (d : NE) : Option NE := match x with
  | none => some d
  | some (.int _ e) => some e
  | _ => none
theorem boundR {σ : Sg} {v : SV} {k : IntKind} {e : NE} (hv : v = .int k e) {y : Nat} {c : BoundsCode} (h0 : 0 ≤ e.den ρ) (h1 : e.den ρ ≤ y) : Runs P (Instr.sliceBound (v.den ρ σ) y c) (e.den ρ).toNat := by
  intro w
  subst hv
  simp [SV.den, Instr.sliceBound, asIntOf, h0, h1]
theorem boundsR {σ : Sg} {len cap : Nat} {lo hi : Option SV} {n l h : NE} (hh : evB hi n = some h) (hl : evB lo (.lit 0) = some l) (hn : (n.den ρ).toNat = len) (h0 : 0 ≤ l.den ρ) (h1 : l.den ρ ≤ h.den ρ) (h2 : h.den ρ ≤ n.den ρ) (hc : len ≤ cap) :
    Runs P (Instr.sliceBounds true len cap (lo.map (·.den ρ σ)) (hi.map (·.den ρ σ)) none) ((l.den ρ).toNat, (h.den ρ).toNat, cap) := by
  intro w
  have low : ∀ y : Nat, h.den ρ ≤ y → ∀ v : SV, lo = some v → ∀ c, (Instr.sliceBound (v.den ρ σ) y c).run P w = .ok (l.den ρ).toNat w := by
    intro y hy v hv c
    subst hv
    cases v <;> simp only [evB] at hl <;> cases hl
    exact boundR rfl h0 (by omega) w
  cases hi with
  | none =>
    cases hh
    cases lo with
    | none => cases hl; simp [Instr.sliceBounds, hn, NE.den]
    | some v =>
      have := low len (by omega) v rfl
      simp [Instr.sliceBounds, this, hn]
  | some u =>
    cases u <;> simp only [evB] at hh <;> cases hh
    rename_i k
    have b1 : ∀ c, (Instr.sliceBound ((SV.int k h).den ρ σ) cap c).run P w = .ok (h.den ρ).toNat w := fun c => boundR rfl (by omega) (by omega) w
    cases lo with
    | none => cases hl; simp [Instr.sliceBounds, b1, NE.den]
    | some v =>
      have := low (h.den ρ).toNat (by omega) v rfl
      simp [Instr.sliceBounds, b1, this]
/-- Parts of rows. -/
def evSliceR (P : Program) (Γ : Facts) (t : TypeId) (X : SV) (lo hi : Option SV) (H : Hp) : Option SV := match P.underlying t, X with
  | some (.slice e), .asl b n => (P.info? e).bind fun i => (rowOf H b n).bind fun q => (evB hi n).bind fun h => (evB lo (.lit 0)).bind fun l =>
    if leR Γ (.lit 0) l && (leR Γ l h && leR Γ h n) then some (.rsl b i.size l h) else none
  | some (.slice e), .rsl b st l0 h0 => (P.info? e).bind fun i => (getA H b).bind fun q => (evB hi (nf Γ (mkBin .subI h0 l0))).bind fun h => (evB lo (.lit 0)).bind fun l =>
    if st = i.size ∧ (leR Γ (.lit 0) l0 && (leR Γ l0 h0 && (leR Γ h0 q.2.n && (leR Γ (.lit 0) l && (leR Γ l h && (leR Γ h (nf Γ (mkBin .subI h0 l0)) && (l == .lit 0 || leR Γ (mkAddI l (.lit 1)) h))))))) = true then some (.rsl b st (nf Γ (mkAddI l0 l)) (nf Γ (mkAddI l0 h))) else none
  | _, _ => none
theorem sliceR_ok (hΓ : Γ.Holds P ρ) {σ : Sg} {H : Hp} {w : World} (hr : HRel P ρ σ H w) {t : TypeId} {X v : SV} {lo hi : Option SV} (h : evSliceR P Γ t X lo hi H = some v) :
    (Instr.sliceAt t (X.den ρ σ) (lo.map (·.den ρ σ)) (hi.map (·.den ρ σ)) none).run P w = .ok (v.den ρ σ) w ∧ ∀ m, X.inside m = true → v.inside m = true := by
  unfold evSliceR at h
  split at h
  · rename_i e b n hd
    simp only [Option.bind_eq_some_iff, Option.ite_none_right_eq_some, Option.some.injEq, Bool.and_eq_true] at h
    obtain ⟨i, hi', q, hq, h', hh, l, hl, ⟨g0, g1, g2⟩, rfl⟩ := h
    have g0 := leR_ok hΓ g0
    have g1 := leR_ok hΓ g1
    have g2 := leR_ok hΓ g2
    simp only [NE.den] at g0
    obtain ⟨hq1, hq2⟩ := rowOf_some hq
    have R := hr.row hq1
    obtain ⟨nn, hs⟩ := hr.slice hq
    refine ⟨?_, fun m hm => hm⟩
    rcases hs with ⟨a, hg, hz, he⟩ | ⟨hg, he⟩
    · have el : l.den ρ = 0 := by omega
      have eh : h'.den ρ = 0 := by omega
      have hb := boundsR (P := P) (ρ := ρ) (σ := σ) (cap := 0) (len := 0) hh hl (by omega) g0 g1 g2 (Nat.le_refl _)
      rw [he]
      simp only [SV.den, hg, Instr.sliceAt, Instr.slice, Sem.run_bind, run_underlying hd, Result.andThen_ok, Sem.run_pure, hb w, run_sizeOf hi' w, el, eh]
      simp
    · have hcp := R.cp hg
      rw [hq2] at hcp
      have hb := boundsR (P := P) (ρ := ρ) (σ := σ) (cap := σ.cap b) (len := (n.den ρ).toNat) hh hl rfl g0 g1 g2 hcp
      rw [he]
      simp only [SV.den, hg, Instr.sliceAt, Instr.slice, Sem.run_bind, run_underlying hd, Result.andThen_ok, Sem.run_pure, hb w, run_sizeOf hi' w, Option.map_some, addr_add]
      have e1 : (h'.den ρ - l.den ρ).toNat = (h'.den ρ).toNat - (l.den ρ).toNat := by omega
      rw [e1]
      by_cases hc : σ.cap b = (l.den ρ).toNat
      · rw [if_pos hc, if_pos (show (σ.cap b : Int) = l.den ρ by omega)]
      · rw [if_neg hc, if_neg (show ¬ (σ.cap b : Int) = l.den ρ by omega)]
  · rename_i e b st l0 h0 hd
    simp only [Option.bind_eq_some_iff, Option.ite_none_right_eq_some, Option.some.injEq, Bool.and_eq_true, Bool.or_eq_true, beq_iff_eq] at h
    obtain ⟨i, hi', ⟨x, A⟩, hq, h', hh, l, hl, ⟨rfl, k0, k1, k2, g0, g1, g2, g3⟩, rfl⟩ := h
    have k0 := leR_ok hΓ k0
    have k1 := leR_ok hΓ k1
    have k2 := leR_ok hΓ k2
    have g0 := leR_ok hΓ g0
    have g1 := leR_ok hΓ g1
    have g2 := leR_ok hΓ g2
    have en : (nf Γ (mkBin .subI h0 l0)).den ρ = h0.den ρ - l0.den ρ := by rw [nf_den hΓ, mkBin_den]; rfl
    have g3' : l.den ρ = 0 ∨ l.den ρ < h'.den ρ := by
      rcases g3 with g3 | g3
      · left; rw [g3]; rfl
      · right; have := leR_ok hΓ g3; rw [mkAddI_den] at this; simp only [NE.den] at this; omega
    simp only [NE.den] at g0 k0
    rw [en] at g2
    have R := hr.row hq
    have ea : (nf Γ (mkAddI l0 l)).den ρ = l0.den ρ + l.den ρ := by rw [nf_den hΓ, mkAddI_den]
    have eb : (nf Γ (mkAddI l0 h')).den ρ = l0.den ρ + h'.den ρ := by rw [nf_den hΓ, mkAddI_den]
    refine ⟨?_, fun m hm => hm⟩
    cases hg : σ.gh b with
    | some a =>
      have hz := R.gh a hg
      simp only at k2
      have el : l.den ρ = 0 := by omega
      have eh : h'.den ρ = 0 := by omega
      have hb := boundsR (P := P) (ρ := ρ) (σ := σ) (cap := 0) (len := 0) hh hl (by omega) g0 g1 (by omega) (Nat.le_refl _)
      simp only [SV.den, hg, Instr.sliceAt, Instr.slice, Sem.run_bind, run_underlying hd, Result.andThen_ok, Sem.run_pure, hb w, run_sizeOf hi' w, el, eh]
      simp
    | none =>
      have hcp : (A.n.den ρ).toNat ≤ σ.cap b := R.cp hg
      simp only at k2
      have hb := boundsR (P := P) (ρ := ρ) (σ := σ) (cap := σ.cap b - (l0.den ρ).toNat) (len := (h0.den ρ - l0.den ρ).toNat) hh hl (by rw [en]) g0 g1 (by omega) (by omega)
      simp only [SV.den, hg, Instr.sliceAt, Instr.slice, Sem.run_bind, run_underlying hd, Result.andThen_ok, Sem.run_pure, hb w, run_sizeOf hi' w, Option.map_some, addr_add, ea, eb]
      have e1 : (l0.den ρ + h'.den ρ - (l0.den ρ + l.den ρ)).toNat = (h'.den ρ).toNat - (l.den ρ).toNat := by omega
      have e2 : σ.cap b - (l0.den ρ + l.den ρ).toNat = σ.cap b - (l0.den ρ).toNat - (l.den ρ).toNat := by omega
      have e3 : (l0.den ρ + l.den ρ).toNat = (l0.den ρ).toNat + (l.den ρ).toNat := by omega
      rw [e1, e2]
      rcases g3' with hz | hlt
      · rw [hz, Int.add_zero]
        simp only [Int.toNat_zero, Nat.zero_mul, Nat.add_zero, Nat.sub_zero]
        simp
      · rw [if_neg (show ¬ (σ.cap b - (l0.den ρ).toNat = (l.den ρ).toNat) by omega), if_neg (show ¬ (σ.cap b : Int) = l0.den ρ by omega), if_neg (show ¬ (σ.cap b : Int) = l0.den ρ + l.den ρ by omega), e3, Nat.add_mul, Nat.add_assoc]
  · cases h
def evIndexP (P : Program) (Γ : Facts) (t : TypeId) (X I : SV) (H : Hp) : Option SV := match P.underlying t, X, I with
  | some (.slice e), .rsl b st lo hi, .int _ j => (P.info? e).bind fun i => (getA H b).bind fun q => if st = i.size ∧ (leR Γ (.lit 0) lo && (leR Γ hi q.2.n && inR Γ j (nf Γ (mkBin .subI hi lo)))) = true then some (.eptr b (nf Γ (mkAddI lo j)) st 0) else none
  | _, _, _ => none
theorem indexP_ok (hΓ : Γ.Holds P ρ) {σ : Sg} {H : Hp} {w : World} (hr : HRel P ρ σ H w) {t : TypeId} {X I v : SV} (h : evIndexP P Γ t X I H = some v) :
    (Instr.indexAt t (X.den ρ σ) (I.den ρ σ)).run P w = .ok (v.den ρ σ) w ∧ ∀ m, X.inside m = true → v.inside m = true := by
  unfold evIndexP at h
  split at h
  · rename_i e b st lo hi k j hd
    simp only [Option.bind_eq_some_iff, Option.ite_none_right_eq_some, Option.some.injEq, Bool.and_eq_true] at h
    obtain ⟨i, hi', ⟨x, A⟩, hq, ⟨rfl, k0, k2, hin⟩, rfl⟩ := h
    have k0 := leR_ok hΓ k0
    have k2 := leR_ok hΓ k2
    obtain ⟨h0, h1⟩ := inR_ok hΓ hin
    have en : (nf Γ (mkBin .subI hi lo)).den ρ = hi.den ρ - lo.den ρ := by rw [nf_den hΓ, mkBin_den]; rfl
    rw [en] at h1
    simp only [NE.den] at k0
    simp only at k2
    have R := hr.row hq
    have hg : σ.gh b = none := by
      cases hg : σ.gh b with
      | none => rfl
      | some a => have := R.gh a hg; omega
    have hcp : (A.n.den ρ).toNat ≤ σ.cap b := R.cp hg
    have ea : (nf Γ (mkAddI lo j)).den ρ = lo.den ρ + j.den ρ := by rw [nf_den hΓ, mkAddI_den]
    refine ⟨?_, fun m hm => hm⟩
    have h1' : j.den ρ < (((hi.den ρ - lo.den ρ).toNat : Nat) : Int) := by omega
    simp only [SV.den, hg, ea]
    rw [if_neg (show ¬ (σ.cap b : Int) = lo.den ρ by omega)]
    have e3 : (lo.den ρ + j.den ρ).toNat = (lo.den ρ).toNat + (j.den ρ).toNat := by omega
    rw [e3, Nat.add_mul]
    simp [Instr.indexAt, asIntOf, run_underlying hd, Instr.sureAddr, h0, h1', run_sizeOf hi' w, addr_add, Nat.add_assoc]
    intro h9; omega
  · cases h
/-- A text as bytes. -/
def evBytes (P : Program) (s d : TypeId) (x : SV) (H : Hp) : Option Out := match P.underlying s, P.underlying d, x with
  | some .string, some (.slice e), .str bs => (match P.underlying e with
    | some (.int .u8) => some (.vec H.length bs.size, H ++ [some ⟨bs.data.toList.map fun b => .int .u8 (.lit b.toNat), e, true, false, none⟩], [])
    | _ => none)
  | _, _, _ => none
theorem bytes_ok {σ : Sg} {H : Hp} {w : World} (hr : HRel P ρ σ H w) {s d : TypeId} {x : SV} {r : Out} (h : evBytes P s d x H = some r) :
    ∃ u w', (convert s d (x.den ρ σ)).run P w = .ok u w' ∧ Good P ρ σ H r w u w' := by
  unfold evBytes at h
  split at h
  · rename_i e bs hs hd
    split at h
    · rename_i he
      cases h
      obtain ⟨k, hcut⟩ : ∃ k, (Question.appendCap bs.size 0 e).cut (w.tape w.drawn (.appendCap bs.size 0 e)) = bs.size + k := ⟨_, rfl⟩
      have hcells : denL ρ (σ.snoc H.length w.heap.size (bs.size + k)) (bs.data.toList.map fun b => .int .u8 (.lit b.toNat)) = (bs.data.map fun b => Value.int .u8 b.toNat).toList := by
        rw [denL_map]; simp [SV.den, NE.den]
      have hin : insideL H.length (bs.data.toList.map fun b => SV.int .u8 (.lit b.toNat)) = true := insideL_of fun v hv => by
        obtain ⟨b, _, rfl⟩ := List.mem_map.1 hv; rfl
      obtain ⟨arr, harr⟩ : ∃ arr : Array Value, arr = (bs.data.map fun b => Value.int .u8 b.toNat) ++ Array.replicate k (.int .u8 0) := ⟨_, rfl⟩
      have hsz : arr.size = bs.size + k := by rw [harr, Array.size_append, Array.size_map, Array.size_replicate]; rfl
      refine ⟨.slice (some ⟨w.heap.size, 0, none⟩) bs.size (bs.size + k), { w.drew with heap := w.heap.push (.cells arr e (bs.size + k, bs.size + k + 1)) }, ?_, σ.snoc H.length w.heap.size (bs.size + k), ?_, ?_, ?_⟩
      · have hq : (Question.appendCap bs.size 0 e).forced = false := rfl
        have e0 : bs.size + k - bs.size = k := by omega
        have hch : (choose (.appendCap bs.size 0 e)).run P w = .ok (bs.size + k) w.drew := by simp [choose, Sem.run, hq, hcut]
        let W1 : World := { w.drew with heap := w.heap.push (.cells arr e (0, 0)) }
        have h1 : (newRow e arr).run P w.drew = .ok ⟨w.heap.size, 0, none⟩ W1 := rfl
        have hsh : W1.shape? w.heap.size = some (e, bs.size + k) := by simp [World.shape?, W1, hsz]
        have hmod : ∀ (o : Obj) (f : Obj → Obj), (w.heap.push o).modify w.heap.size f = w.heap.push (f o) := by
          intro o f
          apply Array.ext_getElem?
          intro i
          rw [Array.getElem?_modify]
          simp only [Array.getElem?_push]
          by_cases hi : i = w.heap.size
          · subst hi; simp
          · rw [if_neg (Ne.symm hi), if_neg hi, if_neg hi]
        have h3 : W1.freeze ⟨w.heap.size, bs.size + k, none⟩ 1 = { w.drew with heap := w.heap.push (.cells arr e (bs.size + k, bs.size + k + 1)) } := by
          simp only [World.freeze, W1]
          rw [if_neg (by decide), hmod]
          simp
        have h2 : (markStringish ⟨w.heap.size, 0, none⟩).run P W1 = .ok () { w.drew with heap := w.heap.push (.cells arr e (bs.size + k, bs.size + k + 1)) } := by
          rw [← h3]
          simp only [markStringish, Sem.run_bind, shape, Sem.run, Result.andThen_ok, hsh]
          rfl
        simp only [SV.den, convert, Sem.run_bind, run_underlying hs, run_underlying hd, run_underlying he, Result.andThen_ok, Conv.stringToBytes, hch, e0, ← harr, h1, h2, Sem.run_pure]
      · have hp := Post.add (w' := { w.drew with heap := w.heap.push (.cells arr e (bs.size + k, bs.size + k + 1)) }) hr.drew ⟨bs.data.toList.map fun b => .int .u8 (.lit b.toNat), e, true, false, none⟩ ⟨w.heap.size, bs.size + k, 0, none⟩ hin (fun _ => Nat.le_refl _)
          (BlkAt.ofCon rfl rfl ⟨rfl, rfl, List.replicate k (.int .u8 0), (bs.size + k, bs.size + k + 1), ?_, (fun _ h => by cases h), (fun h => by cases h), fun h => by cases h⟩) rfl rfl rfl (by show w.heap.size ≤ (w.heap.push _).size; simp) fun k hk => by
            have hk' : k < w.heap.size := hk
            simp only [Array.getElem?_push]; rw [if_neg (by omega)]; rfl
        · exact hp.drew
        · have := hcells
          simp only [Sg.snoc] at this
          rw [this]
          have e1 : ((bs.data.map fun (b : UInt8) => Value.int .u8 (b.toNat : Int)).toList ++ List.replicate k (Value.int .u8 0)).toArray = arr := by rw [harr]; apply Array.ext'; simp
          rw [e1]
          show (w.heap.push _)[w.heap.size]? = _
          simp
      · simp [SV.den, Sg.snoc_blk, Sg.snoc_cap]
      · simp [SV.inside]
    · cases h
  · cases h
/-- Operations that look at rows, and at texts that are not known. -/
def evOpR (P : Program) (Γ : Facts) (T : List SV) (H : Hp) (o : Oper) : Option Out :=
  let u (v : Option SV) : Option Out := v.map fun v => (v, H, [])
  match o.op with
  | .load t x => (match evO T x with
    | some (.eptr b i st c) => u (evLoadR P Γ t b i st c H)
    | _ => none)
  | .store t x y => (match evO T x with
    | some (.eptr b i st c) => (evO T y).bind fun v => (evStoreR P Γ t b i st c v H).map fun r => (uS, r.1, r.2)
    | _ => none)
  | .nilCheck x => (match evO T x with
    | some (.eptr b i st c) => some (.eptr b i st c, H, [])
    | _ => none)
  | .fieldAddr s x f => u ((evO T x).bind fun X => evFieldR P s X f)
  | .indexAddr t x i => u ((evO T x).bind fun X => (evO T i).bind fun I => match evIndexR P Γ t X I H with
    | some v => some v
    | none => match evIndexV P t X I H with
      | some v => some v
      | none => evIndexP P Γ t X I H)
  | .index t x i => u ((evO T x).bind fun X => (evO T i).bind fun I => evIndexS P Γ t X I)
  | .binOp op t x y _ => u ((evO T x).bind fun X => (evO T y).bind fun Y => evNil P Γ op t X Y H)
  | .convert s d x => (evO T x).bind fun X => evBytes P s d X H
  | .slice t x lo hi mx => (evO T x).bind fun X => (evOpt T lo).bind fun lo => (evOpt T hi).bind fun hi => (evOpt T mx).bind fun mx => (match mx with
    | none => u (match evSliceV P t X lo hi H with
      | some v => some v
      | none => evSliceR P Γ t X lo hi H)
    | some m => evSlice3 P t X lo hi (some m) H)
  | .call c => (match c.callee with
    | .builtin b => (evOs T c.args.toList).bind fun args => (match b, args with
      | .append, args => evAppendR P Γ c.argTypes args H
      | .len, [x] => (c.argTypes[0]?).bind fun t => (evLenR P Γ t x H).map fun n => (.int .i64 n, H, [])
      | _, _ => none)
    | _ => none)
  | _ => none
theorem evOpR_ok (hΓ : Γ.Holds P ρ) {T : List SV} {H : Hp} {o : Oper} {r : Out} (h : evOpR P Γ T H o = some r) {σ : Sg} {a : Act} {w : World} (hT : TRel ds ρ σ H.length T a) (hr : HRel P ρ σ H w) :
    ORes P ((execOp a.eval o).run P w) (Good P ρ σ H r w) := by
  obtain ⟨dst, op, ty, pos, after, guard⟩ := o
  unfold evOpR at h
  cases op <;> simp only at h
  case load t x =>
    split at h
    · rename_i b i st c had
      obtain ⟨v, hv, rfl⟩ := Option.map_eq_some_iff.1 h
      obtain ⟨e, s⟩ := evO_den hT had
      obtain ⟨h1, h2⟩ := loadR_ok hΓ hr hv
      refine ores_val (u := v.den ρ σ) (w' := w) ?_ (good_same hr h2)
      simp only [Instr.loadAt, e, SV.den, Instr.sureAddr, Sem.run_bind, Sem.run_pure, Result.andThen_ok, h1]
    · cases h
  case store t x y =>
    split at h
    · rename_i b i st c had
      obtain ⟨v, hv, h⟩ := Option.bind_eq_some_iff.1 h
      obtain ⟨⟨H', W⟩, hs, rfl⟩ := Option.map_eq_some_iff.1 h
      obtain ⟨e, s⟩ := evO_den hT had
      obtain ⟨e2, s2⟩ := evO_den hT hv
      obtain ⟨w', hrun, hp⟩ := storeR_ok hΓ hr (evO_any hv) hs
      simp only [execOp, Instr.storeAt, e, e2, SV.den, Instr.sureAddr, Sem.run_bind, Sem.run_pure, Result.andThen_ok]
      rw [hrun]
      exact ⟨σ, hp, rfl, rfl⟩
    · cases h
  case nilCheck x =>
    split at h
    · rename_i b i st c had
      cases h
      obtain ⟨e, s⟩ := evO_den hT had
      simp only [execOp, e, SV.den, Sem.run_pure]
      exact good_same (v := .eptr b i st c) hr s
    · cases h
  case binOp op t x y yt =>
    obtain ⟨v, hv, rfl⟩ := Option.map_eq_some_iff.1 h
    obtain ⟨X, hX, hv⟩ := Option.bind_eq_some_iff.1 hv
    obtain ⟨Y, hY, hv⟩ := Option.bind_eq_some_iff.1 hv
    obtain ⟨e1, _⟩ := evO_den hT hX
    obtain ⟨e2, _⟩ := evO_den hT hY
    obtain ⟨h1, h2⟩ := nil_ok hΓ hr hv
    simp only [execOp, e1, e2]
    exact ores_runs hr h1 (h2 _)
  case slice t x lo hi mx =>
    obtain ⟨X, hX, h⟩ := Option.bind_eq_some_iff.1 h
    obtain ⟨L, hL, h⟩ := Option.bind_eq_some_iff.1 h
    obtain ⟨R, hR, h⟩ := Option.bind_eq_some_iff.1 h
    obtain ⟨M, hM, h⟩ := Option.bind_eq_some_iff.1 h
    obtain ⟨e1, s1⟩ := evO_den hT hX
    split at h
    · obtain ⟨v, hv, rfl⟩ := Option.map_eq_some_iff.1 h
      split at hv
      · rename_i v' hv'
        cases hv
        obtain ⟨hrun, hin⟩ := sliceV_ok (P := P) (ρ := ρ) hr hv'
        simp only [execOp, e1, evOpt_den hT hL, evOpt_den hT hR, evOpt_den hT hM]
        exact ores_val hrun (good_same hr (hin _ s1))
      · obtain ⟨hrun, hin⟩ := sliceR_ok hΓ hr hv
        simp only [execOp, e1, evOpt_den hT hL, evOpt_den hT hR, evOpt_den hT hM]
        exact ores_val hrun (good_same hr (hin _ s1))
    · obtain ⟨u, hrun, hg⟩ := slice3_ok (P := P) (ρ := ρ) hr s1 h
      simp only [execOp, e1, evOpt_den hT hL, evOpt_den hT hR, evOpt_den hT hM]
      exact ores_val hrun hg
  case convert s d x =>
    obtain ⟨X, hX, h⟩ := Option.bind_eq_some_iff.1 h
    obtain ⟨e1, s1⟩ := evO_den hT hX
    obtain ⟨u, w', hrun, hg⟩ := bytes_ok (P := P) (ρ := ρ) hr h
    simp only [execOp, e1]
    exact ores_val hrun hg
  case fieldAddr s x f =>
    obtain ⟨v, hv, rfl⟩ := Option.map_eq_some_iff.1 h
    obtain ⟨X, hX, hv⟩ := Option.bind_eq_some_iff.1 hv
    obtain ⟨e, s'⟩ := evO_den hT hX
    obtain ⟨h1, h2⟩ := fieldR_ok (P := P) (ρ := ρ) (σ := σ) hv
    simp only [execOp, e]
    exact ores_runs hr h1 (h2 _ s')
  case indexAddr t x i =>
    obtain ⟨v, hv, rfl⟩ := Option.map_eq_some_iff.1 h
    obtain ⟨X, hX, hv⟩ := Option.bind_eq_some_iff.1 hv
    obtain ⟨I, hI, hv⟩ := Option.bind_eq_some_iff.1 hv
    obtain ⟨e1, s1⟩ := evO_den hT hX
    obtain ⟨e2, _⟩ := evO_den hT hI
    split at hv
    · rename_i v' hv'
      cases hv
      obtain ⟨h1, h2⟩ := indexR_ok hΓ hr hv'
      simp only [execOp, e1, e2]
      exact ores_val h1 (good_same hr (h2 _ s1))
    · split at hv
      · rename_i v' hv'
        cases hv
        obtain ⟨h1, h2⟩ := indexV_ok (P := P) (ρ := ρ) hr hv'
        simp only [execOp, e1, e2]
        exact ores_val h1 (good_same hr (h2 _ s1))
      · obtain ⟨h1, h2⟩ := indexP_ok hΓ hr hv
        simp only [execOp, e1, e2]
        exact ores_val h1 (good_same hr (h2 _ s1))
  case index t x i =>
    obtain ⟨v, hv, rfl⟩ := Option.map_eq_some_iff.1 h
    obtain ⟨X, hX, hv⟩ := Option.bind_eq_some_iff.1 hv
    obtain ⟨I, hI, hv⟩ := Option.bind_eq_some_iff.1 hv
    obtain ⟨e1, s1⟩ := evO_den hT hX
    obtain ⟨e2, _⟩ := evO_den hT hI
    obtain ⟨h1, h2⟩ := indexS_ok (P := P) hΓ (σ := σ) hv
    simp only [execOp, e1, e2]
    exact ores_runs hr h1 (h2 _)
  case call c =>
    obtain ⟨callee, args, ats⟩ := c
    cases callee with
    | invoke x name => cases h
    | value f => cases h
    | builtin b =>
      simp only at h
      obtain ⟨vs, hvs, h⟩ := Option.bind_eq_some_iff.1 h
      obtain ⟨e, s⟩ := evOs_den hT hvs
      have g : args.map a.eval = (denL ρ σ vs).toArray := by rw [← e, map_arr]
      simp only [execOp, resolve, g, Sem.run_bind, Sem.run_pure, Result.andThen_ok, invoke]
      split at h
      · obtain ⟨u, w', hrun, hg⟩ := evAppendR_ok (rt := ty) hΓ hr h
        simp only [builtin, Sem.run_bind, hrun, Result.andThen_ok, Sem.run_pure]; exact hg
      · obtain ⟨t, ht, h⟩ := Option.bind_eq_some_iff.1 h
        obtain ⟨n, hn, rfl⟩ := Option.map_eq_some_iff.1 h
        simp only [builtin, denL, Sem.run_bind, lenR_ok hΓ hr hn ht ty, Result.andThen_ok, Sem.run_pure]
        exact good_same (v := .int .i64 n) hr rfl
      · cases h
  all_goals cases h
def evOp (P : Program) (Γ : Facts) (call : CallF) (T : List SV) (H : Hp) (o : Oper) : Option Out := match evOp0 P Γ call T H o with
  | some r => some r
  | none => evOpR P Γ T H o
theorem evOp_ok (hΓ : Γ.Holds P ρ) {call : CallF} (hc : CallOk P ρ call) {T : List SV} {H : Hp} {o : Oper} {r : Out} (h : evOp P Γ call T H o = some r) {σ : Sg} {a : Act} {w : World} (hT : TRel ds ρ σ H.length T a) (hr : HRel P ρ σ H w) :
    ORes P ((execOp a.eval o).run P w) (Good P ρ σ H r w) := by
  unfold evOp at h
  split at h
  · rename_i r' h0; cases h; exact evOp0_ok hΓ hc h0 hT hr
  · exact evOpR_ok hΓ h hT hr
theorem evOp_defer {call : CallF} {T : List SV} {H : Hp} {o : Oper} {r : Out} (h : evOp P Γ call T H o = some r) : ∀ c, o.op ≠ .defer c := by
  rintro c hc
  obtain ⟨dst, op, ty, pos, after, guard⟩ := o
  simp only at hc
  subst hc
  simp [evOp, evOp0, evOpR] at h
end Go.Proofs.Ytgdhpgjfebinhaa.Ev
