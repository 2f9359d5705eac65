/- The symbolic machine's operations, one by one. -/
import Derived.Test.YtipcoahafdolcaaEvh
import Derived.Laws.Build
namespace Go.Proofs.Ytipcoahafdolcaa.Ev
set_option linter.unusedSimpArgs false
open Go Go.RowKit
set_option linter.unusedVariables false
variable {P : Program} {ρ : Env} {Γ : Facts}

/-- What a value is that an operation hands on, calls included. -/
def ORes (P : Program) (r : Result Next) (G : Value → World → Prop) : Prop := match r with
  | .ok (.value v) w' => G v w'
  | .ok .skip w' => G undef w'
  | .ok (.enter f args) w' => Calls P f args w' fun e w'' => ∃ v, e = .returned v ∧ G v w''
  | _ => False

theorem ORes.wp {o : Oper} {a : Act} {w : World} {G : Value → World → Prop} {K : Act → World → Prop} {Q : Exit → Act → World → Prop} (h : ORes P ((execOp a.eval o).run P w) G) (hK : ∀ v w', G v w' → K (a.put o.dst v) w') : o.wp P a w K Q := by
  unfold Oper.wp
  generalize (execOp a.eval o).run P w = r at *
  cases r with
  | halt x w' => cases h
  | ok n w' =>
    cases n with
    | value v => exact hK _ _ h
    | skip => exact hK _ _ h
    | enter f args => exact Calls.mono h fun e w'' ⟨v, he, hg⟩ => by subst he; exact hK _ _ hg
    | _ => exact h.elim
theorem ORes.mono {r : Result Next} {G G' : Value → World → Prop} (h : ORes P r G) (hG : ∀ v w', G v w' → G' v w') : ORes P r G' := by
  cases r with
  | halt x w' => cases h
  | ok n w' =>
    cases n with
    | value v => exact hG _ _ h
    | skip => exact hG _ _ h
    | enter f args => exact Calls.mono h fun e w'' ⟨v, he, hg⟩ => ⟨v, he, hG _ _ hg⟩
    | _ => exact h.elim
theorem map_arr {α β : Type} (f : α → β) (xs : Array α) : xs.map f = (xs.toList.map f).toArray := by cases xs; simp

/-- A call of a function, by whatever is known of it. -/
abbrev CallF := FuncId → List SV → Hp → Option Out
def CallOk (P : Program) (ρ : Env) (call : CallF) : Prop :=
  ∀ f args H r, call f args H = some r → ∀ σ w, HRel P ρ σ H w → insideL H.length args = true → ORes P ((callFunc f (denL ρ σ args).toArray).run P w) (Good P ρ σ H r w)

/-- The greater, or the lesser, of two numbers. -/
def evMax2 (Γ : Facts) (gt : Bool) : SV → SV → Option SV
  | .int k x, .int _ y => some (.int k (nf Γ (mkBin (if gt then .maxI else .minI) x y)))
  | _, _ => none
def evMaxL (Γ : Facts) (gt : Bool) : SV → List SV → Option SV
  | x, [] => some x
  | x, y :: l => match evMax2 Γ gt x y with
    | some z => evMaxL Γ gt z l
    | none => none
theorem max2_ok (hΓ : Γ.Holds P ρ) {x y z : SV} {gt : Bool} (h : evMax2 Γ gt x y = some z) (σ : Sg) : Runs P ((if gt then Builtin.max2 else Builtin.min2) (x.den ρ σ) (y.den ρ σ)) (z.den ρ σ) ∧ ∀ n, z.inside n = true := by
  unfold evMax2 at h
  split at h
  · cases h
    refine ⟨fun w => ?_, fun _ => rfl⟩
    cases gt <;> simp [SV.den, Builtin.max2, Builtin.min2, nf_den hΓ, mkBin_den, NOp.den]
  · cases h
theorem maxL_ok (hΓ : Γ.Holds P ρ) {gt : Bool} (σ : Sg) : ∀ (l : List SV) (x z : SV), evMaxL Γ gt x l = some z → Runs P ((denL ρ σ l).foldlM (if gt then Builtin.max2 else Builtin.min2) (x.den ρ σ)) (z.den ρ σ) ∧ ∀ n, x.inside n = true → z.inside n = true
  | [], x, z, h => by cases h; exact ⟨fun w => by simp [denL], fun _ h => h⟩
  | y :: l, x, z, h => by
    simp only [evMaxL] at h
    split at h
    · rename_i u hu
      obtain ⟨h1, h2⟩ := max2_ok hΓ hu σ
      obtain ⟨h3, h4⟩ := maxL_ok hΓ σ l u z h
      refine ⟨fun w => ?_, fun n _ => h4 n (h2 n)⟩
      simp only [denL, List.foldlM_cons, Sem.run_bind, h1 w, Result.andThen_ok, h3 w]
    · cases h

def evLenB (P : Program) (t : TypeId) (x : SV) : Option Nat := match P.underlying t, x with
  | some (.array n _), _ => some n
  | some .string, .str s => some s.size
  | some (.slice _), .slice _ n _ => some n
  | some (.slice _), .vec _ n => some n
  | some (.pointer a), _ => match P.underlying a with
    | some (.array n _) => some n
    | _ => none
  | _, _ => none
theorem lenB_ok {t : TypeId} {x : SV} {n : Nat} (h : evLenB P t x = some n) {ts : Array TypeId} (ht : ts[0]? = some t) (rt : TypeId) (σ : Sg) : Runs P (Builtin.len_ ts rt #[x.den ρ σ]) (.int .i64 n) := by
  unfold evLenB at h
  intro w
  split at h
  · rename_i hu; cases h; simp [Builtin.len_, ht, run_underlying hu, goInt]
  · rename_i hu; cases h; simp [Builtin.len_, ht, run_underlying hu, goInt, SV.den]
  · rename_i hu; cases h; simp [Builtin.len_, ht, run_underlying hu, goInt, SV.den]
  · rename_i hu; cases h; simp [Builtin.len_, ht, run_underlying hu, goInt, SV.den]
  · rename_i hu
    split at h
    · rename_i hu'; cases h; simp [Builtin.len_, ht, run_underlying hu, run_underlying hu', goInt]
    · cases h
  · cases h

def evBi (P : Program) (Γ : Facts) (b : Builtin) (ts : Array TypeId) (args : List SV) (H : Hp) : Option Out := match b, args with
  | .append, args => evAppend P ts args H
  | .len, [x] => do
    let t ← ts[0]?
    let n ← evLenB P t x
    some (.int .i64 (.lit n), H, [])
  | .real, [.complex k a _] => some (.float k a, H, [])
  | .imag, [.complex k _ b] => some (.float k b, H, [])
  | .complex, [.float k a, .float l b] => if k = l then some (.complex k a b, H, []) else none
  | .max, x :: l => (evMaxL Γ true x l).map fun v => (v, H, [])
  | .min, x :: l => (evMaxL Γ false x l).map fun v => (v, H, [])
  | _, _ => none
theorem evBi_ok (hΓ : Γ.Holds P ρ) {σ : Sg} {H : Hp} {w : World} (hr : HRel P ρ σ H w) {b : Builtin} {ts : Array TypeId} {rt : TypeId} {cs : Array Bool} {args : List SV} {r : Out} (h : evBi P Γ b ts args H = some r) (hin : insideL H.length args = true) :
    ORes P ((builtin b ts rt cs (denL ρ σ args).toArray).run P w) (Good P ρ σ H r w) := by
  unfold evBi at h
  split at h
  · obtain ⟨u, w', hrun, hg⟩ := evAppend_ok (rt := rt) hr h hin
    simp only [builtin, Sem.run_bind, hrun, Result.andThen_ok, Sem.run_pure]; exact hg
  · simp only [Option.bind_eq_bind, Option.bind_eq_some_iff, Option.some.injEq] at h
    obtain ⟨t, ht, n, hn, rfl⟩ := h
    simp only [builtin, denL, Sem.run_bind, lenB_ok hn ht rt σ w, Result.andThen_ok, Sem.run_pure]
    exact good_same (v := .int .i64 (.lit n)) hr rfl
  · cases h
    have hb : ∀ (k : FloatKind) (x y : Nat), (Builtin.real_ ts rt #[.complex k x y]).run P w = .ok (.float k x) w := fun _ _ _ => rfl
    simp only [builtin, denL, SV.den, hb, Sem.run_bind, Sem.run_pure, Result.andThen_ok]
    exact good_same (v := .float _ _) hr rfl
  · cases h
    have hb : ∀ (k : FloatKind) (x y : Nat), (Builtin.imag_ ts rt #[.complex k x y]).run P w = .ok (.float k y) w := fun _ _ _ => rfl
    simp only [builtin, denL, SV.den, hb, Sem.run_bind, Sem.run_pure, Result.andThen_ok]
    exact good_same (v := .float _ _) hr rfl
  · split at h
    · rename_i hk
      subst hk
      cases h
      have hb : ∀ (k : FloatKind) (x y : Nat), (Builtin.complex_ ts rt #[.float k x, .float k y]).run P w = .ok (.complex k x y) w := by
        intro k x y
        show (if k = k then (pure (.complex k x y) : Sem Value) else _).run P w = _
        rw [if_pos rfl]; rfl
      simp only [builtin, denL, SV.den, hb, Sem.run_bind, Sem.run_pure, Result.andThen_ok]
      exact good_same (v := .complex _ _ _) hr rfl
    · cases h
  · rename_i x l
    obtain ⟨v, hv, rfl⟩ := Option.map_eq_some_iff.1 h
    obtain ⟨h1, h2⟩ := maxL_ok hΓ σ l x v hv
    simp only [if_true] at h1
    simp only [insideL, Bool.and_eq_true] at hin
    simp only [builtin, denL, Builtin.max_, Sem.run_bind, h1 w, Sem.run_pure, Result.andThen_ok]
    exact good_same hr (h2 _ hin.1)
  · rename_i x l
    obtain ⟨v, hv, rfl⟩ := Option.map_eq_some_iff.1 h
    obtain ⟨h1, h2⟩ := maxL_ok hΓ σ l x v hv
    simp only [Bool.false_eq_true, if_false] at h1
    simp only [insideL, Bool.and_eq_true] at hin
    simp only [builtin, denL, Builtin.min_, Sem.run_bind, h1 w, Sem.run_pure, Result.andThen_ok]
    exact good_same hr (h2 _ hin.1)
  · cases h

def evOpt (T : List SV) : Option Operand → Option (Option SV)
  | none => some none
  | some x => (evO T x).map some
theorem evOpt_den {σ : Sg} {n : Nat} {T : List SV} {a : Act} (h : TRel ρ σ n T a) {x : Option Operand} {v : Option SV} (hx : evOpt T x = some v) : x.map a.eval = v.map (·.den ρ σ) := by
  cases x with
  | none => cases hx; rfl
  | some x =>
    obtain ⟨u, hu, rfl⟩ := Option.map_eq_some_iff.1 hx
    simp [(evO_den h hu).1]

def newB (cs : List SV) (t : TypeId) (H : Hp) : Hp := H ++ [some ⟨cs, t, false, false⟩]

def isPtrD : TypeDesc → Bool
  | .pointer _ => true
  | _ => false
/-- The method of that name; its receiver is the value itself. -/
def evMethod (P : Program) (t : TypeId) (name : String) : Option FuncId := do
  let i ← P.info? t
  let m ← i.methods.find? (·.name == name)
  let d ← P.underlying t
  match m.path.toList, m.func with
  | [], some (f, pr) => if pr = isPtrD d then some f else none
  | _, _ => none
theorem method_ok {t : TypeId} {name : String} {f : FuncId} (h : evMethod P t name = some f) (v : Value) (n : Nat) : Runs P (method (n + 1) t v name) (f, v) := by
  unfold evMethod at h
  simp only [Option.bind_eq_bind, Option.bind_eq_some_iff] at h
  obtain ⟨i, hi, m, hm, d, hd, h⟩ := h
  split at h
  · rename_i g pr hp hf
    split at h
    · rename_i hpr
      cases h
      subst hpr
      intro w
      have h1 : ∀ wr, (receiverAt t (.val v) (isPtrD d) wr).run P w = .ok v w := by
        intro wr
        simp only [receiverAt, Sem.run_bind, run_underlying hd, Result.andThen_ok]
        cases d <;> simp [isPtrD, Place.get]
      simp [method, typeInfo, hi, hm, hp, follow, hf, h1]
    · cases h
  · cases h

def evOp (P : Program) (Γ : Facts) (call : CallF) (T : List SV) (H : Hp) (o : Oper) : Option Out :=
  let u (v : Option SV) : Option Out := v.map fun v => (v, H, [])
  match o.op with
  | .move x => u (evO T x)
  | .assign x => u (evO T x)
  | .pick c x y => (match evO T c with
    | some (.bool c) => (match res Γ c with
      | some true => u (evO T x)
      | some false => u (evO T y)
      | none => none)
    | _ => none)
  | .alloc t => (embedZ P t).map fun cs => (.ptr (some ⟨H.length, 0, none⟩), newB cs t H, [])
  | .box t x => (evO T x).map fun v => (.ptr (some ⟨H.length, 0, none⟩), newB v.cells t H, [])
  | .build t ps => u ((evParts T ps.toList).bind fun l => (evBuild P t l).map .agg)
  | .buildSlice t n ps => (evParts T ps.toList).bind fun l => (evBuildSlice P t n l).map fun r => (.slice (some ⟨H.length, 0, none⟩) n n, newB r.2 r.1 H, [])
  | .load t x => u ((evAddr (evO T x)).bind fun a => evLoad P t a H)
  | .store t x y => (evAddr (evO T x)).bind fun a => (evO T y).bind fun v => (evStore P t a v H).map fun r => (uS, r.1, r.2)
  | .nilCheck x => (match evO T x with
    | some (.ptr (some a)) => some (.ptr (some a), H, [])
    | some (.func (.func f) fs cs) => some (.func (.func f) fs cs, H, [])
    | some (.iface t v) => some (.iface t v, H, [])
    | _ => none)
  | .makeInterface t x => if P.concrete t then u ((evO T x).map (.iface t)) else none
  | .binOp op t x y _ => u ((evO T x).bind fun X => (evO T y).bind fun Y => evBin P Γ op t x y X Y)
  | .unOp op _ x => u ((evO T x).bind fun X => evUn Γ op X)
  | .convert s d x => u ((evO T x).bind fun X => evConv P Γ s d X)
  | .makeFunc fn f c => u ((evOs T f.toList).bind fun f => (evOs T c.toList).map fun c => .func fn f c)
  | .makeSlice t l c => (evO T l).bind fun l => (evO T c).bind fun c => (evMakeSlice P t l c).map fun r => (.slice (some ⟨H.length, 0, none⟩) r.2.2.1 r.2.2.2, newB r.2.1 r.1 H, [])
  | .slice t x lo hi none => u ((evO T x).bind fun X => (evOpt T lo).bind fun lo => (evOpt T hi).bind fun hi => evSlice P t X lo hi)
  | .fieldAddr s x f => u ((evAddr (evO T x)).bind fun a => (evField P s a f).map fun a => .ptr (some a))
  | .field t x f => u ((evO T x).bind fun X => evFieldV P t X f)
  | .indexAddr t x i => u ((evO T x).bind fun X => (evO T i).bind fun I => (evIndexAt P t X I).map fun a => .ptr (some a))
  | .index t x i => u ((evO T x).bind fun X => (evO T i).bind fun I => evIndex P t X I)
  | .extract x i => u ((evO T x).bind fun X => evExtract X i)
  | .call c => (match c.callee with
    | .value f => (match evO T f with
      | some (.func (.func g) fs cs) => (evOs T c.args.toList).bind fun args => call g (fs ++ args ++ cs) H
      | _ => none)
    | .builtin b => (evOs T c.args.toList).bind fun args => evBi P Γ b c.argTypes args H
    | .invoke x name => (match evO T x with
      | some (.iface t v) => (evOs T c.args.toList).bind fun args => (evMethod P t name).bind fun m => call m (v :: args) H
      | _ => none))
  | _ => none

theorem ores_val {s : Sem Value} {w w' : World} {u : Value} {G : Value → World → Prop} (h : s.run P w = .ok u w') (hG : G u w') : ORes P ((do pure (Next.value (← s)) : Sem Next).run P w) G := by
  simp only [Sem.run_bind, h, Result.andThen_ok, Sem.run_pure]; exact hG
theorem ores_runs {s : Sem Value} {w : World} {σ : Sg} {H : Hp} {v : SV} (hr : HRel P ρ σ H w) (h : Runs P s (v.den ρ σ)) (hv : v.inside H.length = true) : ORes P ((do pure (Next.value (← s)) : Sem Next).run P w) (Good P ρ σ H (v, H, []) w) :=
  ores_val (h w) (good_same hr hv)
theorem good_new {σ σ' : Sg} {H : Hp} {w w' : World} {cs : List SV} {t : TypeId} {v : SV} (hp : Post P ρ σ σ' H (H ++ [some ⟨cs, t, false, false⟩]) [] w w') (hv : v.inside (H.length + 1) = true) : Good P ρ σ H (v, newB cs t H, []) w (v.den ρ σ') w' :=
  ⟨σ', hp, rfl, by simpa [newB] using hv⟩

theorem evOp_ok (hΓ : Γ.Holds P ρ) {call : CallF} (hc : CallOk P ρ call) {T : List SV} {H : Hp} {o : Oper} {r : Out} (h : evOp P Γ call T H o = some r) {σ : Sg} {a : Act} {w : World} (hT : TRel ρ σ H.length T a) (hr : HRel P ρ σ H w) :
    ORes P ((execOp a.eval o).run P w) (Good P ρ σ H r w) := by
  obtain ⟨dst, op, ty, pos, after, guard⟩ := o
  unfold evOp at h
  cases op <;> simp only at h
  case move x | assign x =>
    obtain ⟨v, hv, rfl⟩ := Option.map_eq_some_iff.1 h
    obtain ⟨e, s⟩ := evO_den hT hv
    simp only [execOp, e, Sem.run_pure]
    exact good_same hr s
  case pick c x y =>
    split at h
    · rename_i c' hc'
      obtain ⟨e, _⟩ := evO_den hT hc'
      split at h
      · rename_i hres
        obtain ⟨v, hv, rfl⟩ := Option.map_eq_some_iff.1 h
        obtain ⟨e2, s2⟩ := evO_den hT hv
        have := res_den hΓ hres
        simp only [execOp, e, e2, SV.den, asBool, this, Sem.run_bind, Sem.run_pure, Result.andThen_ok, if_true]
        exact good_same hr s2
      · rename_i hres
        obtain ⟨v, hv, rfl⟩ := Option.map_eq_some_iff.1 h
        obtain ⟨e2, s2⟩ := evO_den hT hv
        have := res_den hΓ hres
        simp only [execOp, e, e2, SV.den, asBool, this, Sem.run_bind, Sem.run_pure, Result.andThen_ok, Bool.false_eq_true, if_false]
        exact good_same hr s2
      · cases h
    · cases h
  case alloc t =>
    obtain ⟨cs, hcs, rfl⟩ := Option.map_eq_some_iff.1 h
    obtain ⟨z, hz, hzc, hin⟩ := embedZ_ok (ρ := ρ) hcs σ
    obtain ⟨σ', w', hrun, hp⟩ := newRow_ok hr t (hin H.length)
    refine ores_val (u := .pointer (some ⟨σ'.blk H.length, 0, none⟩)) (w' := w') ?_ (good_new (v := .ptr (some ⟨H.length, 0, none⟩)) hp (by simp [SV.inside]))
    simp only [Instr.alloc, newVar, hzc, Sem.run_bind, hz w, Result.andThen_ok, hrun, Sem.run_pure]
  case box t x =>
    obtain ⟨v, hv, rfl⟩ := Option.map_eq_some_iff.1 h
    obtain ⟨e, s⟩ := evO_den hT hv
    obtain ⟨σ', w', hrun, hp⟩ := newRow_ok hr t (SV.cells_inside s)
    refine ores_val (u := .pointer (some ⟨σ'.blk H.length, 0, none⟩)) (w' := w') ?_ (good_new (v := .ptr (some ⟨H.length, 0, none⟩)) hp (by simp [SV.inside]))
    simp only [Instr.box, newVar, e, SV.cells_den _ _ _ (evO_any hv), Sem.run_bind, hrun, Result.andThen_ok, Sem.run_pure]
  case build t ps =>
    obtain ⟨v, hv, rfl⟩ := Option.map_eq_some_iff.1 h
    obtain ⟨l, hl, hv⟩ := Option.bind_eq_some_iff.1 hv
    obtain ⟨cs, hcs, rfl⟩ := Option.map_eq_some_iff.1 hv
    obtain ⟨e, s, sa⟩ := evParts_den hT hl
    obtain ⟨h1, h2⟩ := build_ok (ρ := ρ) (σ := σ) sa hcs (ps := ps.map fun p => (p.1, a.eval p.2)) (by simpa using e)
    exact ores_runs (v := .agg cs) hr h1 (h2 _ s)
  case buildSlice t n ps =>
    obtain ⟨l, hl, h⟩ := Option.bind_eq_some_iff.1 h
    obtain ⟨⟨e', cs⟩, hcs, rfl⟩ := Option.map_eq_some_iff.1 h
    obtain ⟨e, s, sa⟩ := evParts_den hT hl
    obtain ⟨σ', w', hrun, hp⟩ := buildSlice_ok hr sa hcs (ps := ps.map fun p => (p.1, a.eval p.2)) (by simpa using e) s
    exact ores_val hrun (good_new (v := .slice (some ⟨H.length, 0, none⟩) n n) hp (by simp [SV.inside]))
  case load t x =>
    obtain ⟨v, hv, rfl⟩ := Option.map_eq_some_iff.1 h
    obtain ⟨ad, had, hv⟩ := Option.bind_eq_some_iff.1 hv
    obtain ⟨e, s⟩ := evO_den hT (evAddr_some had)
    obtain ⟨h1, h2⟩ := load_ok hr hv
    refine ores_val (u := v.den ρ σ) (w' := w) ?_ (good_same hr h2)
    simp only [Instr.loadAt, e, SV.den, Option.map_some, Instr.sureAddr, Sem.run_bind, Sem.run_pure, Result.andThen_ok, h1]
  case store t x y =>
    obtain ⟨ad, had, h⟩ := Option.bind_eq_some_iff.1 h
    obtain ⟨v, hv, h⟩ := Option.bind_eq_some_iff.1 h
    obtain ⟨⟨H', W⟩, hs, rfl⟩ := Option.map_eq_some_iff.1 h
    obtain ⟨e, s⟩ := evO_den hT (evAddr_some had)
    obtain ⟨e2, s2⟩ := evO_den hT hv
    obtain ⟨w', hrun, hp⟩ := store_ok hr (evO_any hv) s2 hs
    simp only [execOp, Instr.storeAt, e, e2, SV.den, Option.map_some, Instr.sureAddr, Sem.run_bind, Sem.run_pure, Result.andThen_ok]
    rw [hrun]
    exact ⟨σ, hp, rfl, rfl⟩
  case nilCheck x =>
    split at h
    · rename_i ad had
      cases h
      obtain ⟨e, s⟩ := evO_den hT had
      simp only [execOp, e, SV.den, Option.map_some, Sem.run_pure]
      exact good_same (v := .ptr (some ad)) hr s
    · rename_i f fs cs hf
      cases h
      obtain ⟨e, s⟩ := evO_den hT hf
      simp only [execOp, e, SV.den, Sem.run_pure]
      exact good_same (v := .func (.func f) fs cs) hr s
    · rename_i t v ht
      cases h
      obtain ⟨e, s⟩ := evO_den hT ht
      simp only [execOp, e, SV.den, Sem.run_pure]
      exact good_same (v := .iface t v) hr s
    · cases h
  case makeInterface t x =>
    split at h
    · rename_i hc
      obtain ⟨v, hv, rfl⟩ := Option.map_eq_some_iff.1 h
      obtain ⟨X, hX, rfl⟩ := Option.map_eq_some_iff.1 hv
      obtain ⟨e, s⟩ := evO_den hT hX
      simp only [execOp, e]
      exact ores_runs (v := .iface t X) hr (fun w => run_makeInterface w t _ hc) s
    · cases h
  case binOp op t x y yt =>
    obtain ⟨v, hv, rfl⟩ := Option.map_eq_some_iff.1 h
    obtain ⟨X, hX, hv⟩ := Option.bind_eq_some_iff.1 hv
    obtain ⟨Y, hY, hv⟩ := Option.bind_eq_some_iff.1 hv
    obtain ⟨e1, _⟩ := evO_den hT hX
    obtain ⟨e2, _⟩ := evO_den hT hY
    obtain ⟨h1, h2⟩ := evBin_ok hΓ hv σ
    simp only [execOp, e1, e2]
    exact ores_runs hr h1 (h2 _)
  case unOp op t x =>
    obtain ⟨v, hv, rfl⟩ := Option.map_eq_some_iff.1 h
    obtain ⟨X, hX, hv⟩ := Option.bind_eq_some_iff.1 hv
    obtain ⟨e1, _⟩ := evO_den hT hX
    obtain ⟨h1, h2⟩ := evUn_ok (P := P) hΓ hv σ
    simp only [execOp, e1]
    exact ores_runs hr h1 (h2 _)
  case convert s d x =>
    obtain ⟨v, hv, rfl⟩ := Option.map_eq_some_iff.1 h
    obtain ⟨X, hX, hv⟩ := Option.bind_eq_some_iff.1 hv
    obtain ⟨e1, _⟩ := evO_den hT hX
    obtain ⟨h1, h2⟩ := evConv_ok hΓ hv σ
    simp only [execOp, e1]
    exact ores_runs hr h1 (h2 _)
  case makeFunc fn f c =>
    obtain ⟨v, hv, rfl⟩ := Option.map_eq_some_iff.1 h
    obtain ⟨fs, hf, hv⟩ := Option.bind_eq_some_iff.1 hv
    obtain ⟨cs, hc', rfl⟩ := Option.map_eq_some_iff.1 hv
    obtain ⟨e1, s1⟩ := evOs_den hT hf
    obtain ⟨e2, s2⟩ := evOs_den hT hc'
    have g1 : f.map a.eval = (denL ρ σ fs).toArray := by rw [← e1, map_arr]
    have g2 : c.map a.eval = (denL ρ σ cs).toArray := by rw [← e2, map_arr]
    refine ores_runs (v := .func fn fs cs) hr (fun w => ?_) (by simp [SV.inside, s1, s2])
    simp only [Instr.makeFunc, g1, g2, Sem.run_pure, SV.den]
  case makeSlice t l c =>
    obtain ⟨L, hL, h⟩ := Option.bind_eq_some_iff.1 h
    obtain ⟨C, hC, h⟩ := Option.bind_eq_some_iff.1 h
    obtain ⟨⟨e', cs, n, m⟩, hcs, rfl⟩ := Option.map_eq_some_iff.1 h
    obtain ⟨e1, _⟩ := evO_den hT hL
    obtain ⟨e2, _⟩ := evO_den hT hC
    obtain ⟨σ', w', hrun, hp⟩ := makeSlice_ok hr hcs
    simp only [execOp, e1, e2]
    exact ores_val hrun (good_new (v := .slice (some ⟨H.length, 0, none⟩) n m) hp (by simp [SV.inside]))
  case slice t x lo hi mx =>
    cases mx with
    | some m => cases h
    | none =>
      simp only at h
      obtain ⟨v, hv, rfl⟩ := Option.map_eq_some_iff.1 h
      obtain ⟨X, hX, hv⟩ := Option.bind_eq_some_iff.1 hv
      obtain ⟨L, hL, hv⟩ := Option.bind_eq_some_iff.1 hv
      obtain ⟨R, hR, hv⟩ := Option.bind_eq_some_iff.1 hv
      obtain ⟨e1, s1⟩ := evO_den hT hX
      obtain ⟨h1, h2⟩ := slice_ok (P := P) (ρ := ρ) (σ := σ) hv
      simp only [execOp, e1, evOpt_den hT hL, evOpt_den hT hR, Option.map_none]
      exact ores_runs hr h1 (h2 _ s1)
  case fieldAddr s x f =>
    obtain ⟨v, hv, rfl⟩ := Option.map_eq_some_iff.1 h
    obtain ⟨ad, had, hv⟩ := Option.bind_eq_some_iff.1 hv
    obtain ⟨ad', had', rfl⟩ := Option.map_eq_some_iff.1 hv
    obtain ⟨e, s'⟩ := evO_den hT (evAddr_some had)
    obtain ⟨h1, h2⟩ := field_ok (σ := σ) had'
    simp only [execOp, e]
    have := of_decide_eq_true s'
    exact ores_runs (v := .ptr (some ad')) hr h1 (decide_eq_true (by rw [h2]; exact this))
  case field t x f =>
    obtain ⟨v, hv, rfl⟩ := Option.map_eq_some_iff.1 h
    obtain ⟨X, hX, hv⟩ := Option.bind_eq_some_iff.1 hv
    obtain ⟨e1, s1⟩ := evO_den hT hX
    obtain ⟨h1, h2⟩ := fieldV_ok (P := P) (ρ := ρ) (σ := σ) hv
    simp only [execOp, e1]
    exact ores_runs hr h1 (h2 _ s1)
  case indexAddr t x i =>
    obtain ⟨v, hv, rfl⟩ := Option.map_eq_some_iff.1 h
    obtain ⟨X, hX, hv⟩ := Option.bind_eq_some_iff.1 hv
    obtain ⟨I, hI, hv⟩ := Option.bind_eq_some_iff.1 hv
    obtain ⟨ad, had, rfl⟩ := Option.map_eq_some_iff.1 hv
    obtain ⟨e1, s1⟩ := evO_den hT hX
    obtain ⟨e2, _⟩ := evO_den hT hI
    obtain ⟨h1, h2⟩ := indexAt_ok (P := P) (ρ := ρ) (σ := σ) had
    simp only [execOp, e1, e2]
    exact ores_runs (v := .ptr (some ad)) hr h1 (decide_eq_true (h2 _ s1))
  case index t x i =>
    obtain ⟨v, hv, rfl⟩ := Option.map_eq_some_iff.1 h
    obtain ⟨X, hX, hv⟩ := Option.bind_eq_some_iff.1 hv
    obtain ⟨I, hI, hv⟩ := Option.bind_eq_some_iff.1 hv
    obtain ⟨e1, s1⟩ := evO_den hT hX
    obtain ⟨e2, _⟩ := evO_den hT hI
    obtain ⟨h1, h2⟩ := index_ok (P := P) (ρ := ρ) (σ := σ) hv
    simp only [execOp, e1, e2]
    exact ores_runs hr h1 (h2 _ s1)
  case extract x i =>
    obtain ⟨v, hv, rfl⟩ := Option.map_eq_some_iff.1 h
    obtain ⟨X, hX, hv⟩ := Option.bind_eq_some_iff.1 hv
    obtain ⟨e1, s1⟩ := evO_den hT hX
    obtain ⟨h1, h2⟩ := extract_ok (P := P) (ρ := ρ) (σ := σ) hv
    simp only [execOp, e1]
    exact ores_runs hr h1 (h2 _ s1)
  case call c =>
    obtain ⟨callee, args, ats⟩ := c
    cases callee with
    | invoke x name =>
      simp only at h
      split at h
      · rename_i t v hx
        obtain ⟨vs, hvs, h⟩ := Option.bind_eq_some_iff.1 h
        obtain ⟨f, hm, h⟩ := Option.bind_eq_some_iff.1 h
        obtain ⟨e, s⟩ := evOs_den hT hvs
        obtain ⟨e1, s1⟩ := evO_den hT hx
        have g' : args.map a.eval = (denL ρ σ vs).toArray := by rw [← e, map_arr]
        obtain ⟨n, hn⟩ : ∃ n, P.types.size + Made.depth = n + 1 := ⟨P.types.size + 99, rfl⟩
        have h1 := method_ok hm (v.den ρ σ) n
        have := hc f (v :: vs) H r h σ w hr (by simp only [insideL, Bool.and_eq_true]; exact ⟨s1, s⟩)
        simp only [execOp, resolve, g', e1, SV.den, Sem.run_bind, Sem.run_pure, Result.andThen_ok, invoke]
        simp only [List.getElem?_toArray, List.append_toArray, List.cons_append, List.nil_append, List.getElem?_cons_zero, callMethod, Sem.run_bind, run_program, Result.andThen_ok, hn, h1 w]
        simpa [denL] using this
      · cases h
    | builtin b =>
      simp only at h
      obtain ⟨vs, hvs, h⟩ := Option.bind_eq_some_iff.1 h
      obtain ⟨e, s⟩ := evOs_den hT hvs
      have g : args.map a.eval = (denL ρ σ vs).toArray := by rw [← e, map_arr]
      have := evBi_ok hΓ hr (rt := ty) (cs := args.map fun | .const _ => true | _ => false) h s
      simp only [execOp, resolve, g, Sem.run_bind, Sem.run_pure, Result.andThen_ok, invoke]
      exact this
    | value f =>
      simp only at h
      split at h
      · rename_i g fs cs hf
        obtain ⟨vs, hvs, h⟩ := Option.bind_eq_some_iff.1 h
        obtain ⟨e, s⟩ := evOs_den hT hvs
        obtain ⟨e1, s1⟩ := evO_den hT hf
        have g' : args.map a.eval = (denL ρ σ vs).toArray := by rw [← e, map_arr]
        simp only [SV.inside, Bool.and_eq_true] at s1
        have := hc g (fs ++ vs ++ cs) H r h σ w hr (insideL_of fun v hv => by
          rcases List.mem_append.1 hv with hv | hv
          · rcases List.mem_append.1 hv with hv | hv
            · exact insideL_mem s1.1 hv
            · exact insideL_mem s hv
          · exact insideL_mem s1.2 hv)
        simp only [execOp, resolve, g', e1, SV.den, Deferred.ofValue, Sem.run_bind, Sem.run_pure, Result.andThen_ok, invoke]
        simpa [denL_append] using this
      · cases h
  all_goals cases h
end Go.Proofs.Ytipcoahafdolcaa.Ev
