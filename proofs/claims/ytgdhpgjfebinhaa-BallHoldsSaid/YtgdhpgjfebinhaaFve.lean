/- The symbolic machine's operands, operators, conversions, and how structs and arrays are filled. -/
import Derived.Test.YtgdhpgjfebinhaaFvd
import Derived.Laws.Strings
namespace Go.Proofs.Ytgdhpgjfebinhaa.Ev
set_option linter.unusedSimpArgs false
open Go Go.RowKit
set_option linter.unusedVariables false
variable {P : Program} {ρ : Env} {Γ : Facts}
variable {ds : List Deferred}

/-- Constants that are whole numbers, as such. -/
def fLit (b : Int) : NE := if b = 9223372036854775808 then .lit b else match litW b with
  | some m => if 0 ≤ b then .toF .f64 (.lit m) else .lit b
  | none => .lit b
theorem fLit_den (b : Int) : (fLit b).den ρ = b := by
  unfold fLit
  split
  · rfl
  · rename_i hn
    split
    · rename_i m hm
      split
      · rename_i h0
        obtain ⟨h1, h2⟩ := litW_ok hm
        rcases h1 with h1 | ⟨_, h1⟩
        · have e : (NE.toF .f64 (.lit m)).den ρ = ((fi m : Nat) : Int) := rfl
          rw [e, ← h1]; omega
        · exfalso; unfold Go.Proofs.Ytgdhpgjfebinhaa.nz at h1; omega
      · rfl
    · rfl
def normF (v : SV) : SV := match v with
  | .float .f64 (.lit b) => .float .f64 (fLit b)
  | .complex .f64 (.lit a) (.lit b) => .complex .f64 (fLit a) (fLit b)
  | v => v
theorem normF_den (σ : Sg) (v : SV) : (normF v).den ρ σ = v.den ρ σ := by
  unfold normF
  split
  · simp only [SV.den, fLit_den, NE.den]
  · simp only [SV.den, fLit_den, NE.den]
  · rfl
theorem normF_inside {n : Nat} {v : SV} (h : v.inside n = true) : (normF v).inside n = true := by
  unfold normF
  split
  · rfl
  · rfl
  · exact h
theorem normF_any {v : SV} (h : v.isAny = false) : (normF v).isAny = false := by
  unfold normF
  split
  · rfl
  · rfl
  · exact h
def uS : SV := .tuple []
def evO (T : List SV) : Operand → Option SV
  | .tmp t => (match T.getD t uS with
    | .any _ => none
    | v => some v)
  | .const v => (ofVal 64 v).map normF
  | .func f => some (.func (.func f) [] [])
  | .global _ => none

/-- The slots hold what the symbolic machine's slots stand for. -/
structure TRel (ds : List Deferred) (ρ : Env) (σ : Sg) (n : Nat) (T : List SV) (a : Act) : Prop where
  val : ∀ t, (T.getD t uS).isAny = false → a.tmps.getD t undef = (T.getD t uS).den ρ σ
  ins : ∀ v ∈ T, v.inside n = true
  size : a.tmps.size = T.length
  defers : a.defers = ds

theorem uS_den (σ : Sg) : uS.den ρ σ = undef := rfl
theorem TRel.getD {σ : Sg} {n : Nat} {T : List SV} {a : Act} (h : TRel ds ρ σ n T a) (t : Nat) : (T.getD t uS).inside n = true := by
  rw [List.getD_eq_getElem?_getD]
  cases e : T[t]? with
  | none => rfl
  | some v => exact h.ins v (List.mem_of_getElem? e)
theorem evO_den {σ : Sg} {n : Nat} {T : List SV} {a : Act} (h : TRel ds ρ σ n T a) {x : Operand} {v : SV} (hx : evO T x = some v) : a.eval x = v.den ρ σ ∧ v.inside n = true := by
  cases x <;> simp only [evO] at hx
  case tmp t =>
    split at hx
    · cases hx
    · rename_i hne
      cases hx
      exact ⟨h.val t (by cases e : T.getD t uS <;> first | rfl | exact absurd e (hne _)), h.getD t⟩
  case const u =>
    obtain ⟨x', hx', rfl⟩ := Option.map_eq_some_iff.1 hx
    obtain ⟨e, s⟩ := ofVal_den (ρ := ρ) (σ := σ) _ _ _ hx'
    exact ⟨by rw [normF_den]; exact e.symm, normF_inside (s n)⟩
  case func f => cases hx; exact ⟨rfl, rfl⟩
  case global g => cases hx
theorem evO_any {T : List SV} {x : Operand} {v : SV} (hx : evO T x = some v) : v.isAny = false := by
  cases x <;> simp only [evO] at hx
  case tmp t =>
    split at hx
    · cases hx
    · rename_i hne
      cases hx
      cases e : T.getD t uS <;> first | rfl | exact absurd e (hne _)
  case const u =>
    obtain ⟨x', hx', rfl⟩ := Option.map_eq_some_iff.1 hx
    exact normF_any (ofVal_any _ _ _ hx')
  case func f => cases hx; rfl
  case global g => cases hx
def evOs (T : List SV) : List Operand → Option (List SV)
  | [] => some []
  | x :: l => match evO T x, evOs T l with
    | some v, some r => some (v :: r)
    | _, _ => none
theorem evOs_den {σ : Sg} {n : Nat} {T : List SV} {a : Act} (h : TRel ds ρ σ n T a) : ∀ {l : List Operand} {r : List SV}, evOs T l = some r → l.map a.eval = denL ρ σ r ∧ insideL n r = true
  | [], r, hx => by cases hx; exact ⟨rfl, rfl⟩
  | x :: l, r, hx => by
    simp only [evOs] at hx
    split at hx
    · rename_i v r' h1 h2
      cases hx
      obtain ⟨e1, s1⟩ := evO_den h h1
      obtain ⟨e2, s2⟩ := evOs_den h h2
      exact ⟨by simp [denL, e1, e2], by simp [insideL, s1, s2]⟩
    · cases hx

def evUn (Γ : Facts) (op : UnOp) (x : SV) : Option SV := match op, x with
  | .neg, .int k a => some (.int k (nf Γ (mkBin (.subW k) (.lit 0) a)))
  | .xor, .int k a => some (.int k (nf Γ (mkBin (.xorK k) (.lit (if k.signed then -1 else k.max)) a)))
  | .not, .bool a => some (.bool (mkNot a))
  | .neg, .float k a => some (.float k (nf Γ (mkFneg k a)))
  | .neg, .complex k a b => some (.complex k (nf Γ (mkFneg k a)) (nf Γ (mkFneg k b)))
  | _, _ => none
theorem evUn_ok (hΓ : Γ.Holds P ρ) {op : UnOp} {x v : SV} (h : evUn Γ op x = some v) (σ : Sg) : Runs P (Op.unary op (x.den ρ σ)) (v.den ρ σ) ∧ ∀ n, v.inside n = true := by
  unfold evUn at h
  split at h <;> cases h <;> refine ⟨fun w => ?_, fun _ => rfl⟩ <;>
    simp [Op.unary, SV.den, Op.intArith, Op.intBits, nf_den hΓ, mkBin_den, mkNot_den, mkFneg_den, NOp.den, NE.den]

/-- What is left to the model itself: values without variables and blocks. -/
def litBin (P : Program) (op : BinOp) (t : TypeId) (x y : Operand) (X Y : SV) : Option SV := match X.lit?, Y.lit? with
  | some u, some v => (pureRun P (do eqGuard op t x y u v; binOp op t u v)).bind (ofVal 64)
  | _, _ => none
def isEqOp : BinOp → Option Bool
  | .eql => some true
  | .neq => some false
  | _ => none
def genEq (X Y : SV) : Bool := match X, Y with
  | .agg _, .agg _ => true
  | .bool _, .bool _ => true
  | .slice .., .slice .. => true
  | .slice .., .vec .. => true
  | .vec .., .slice .. => true
  | _, _ => false
def genIf (X Y : SV) : Bool := match X, Y with
  | .iface _ _, .nilIface => true
  | .nilIface, .iface _ _ => true
  | _, _ => false
def strCode : SV → Option NE
  | .str s => some (.lit (enS s))
  | .strn e => some e
  | _ => none
theorem strCode_den {v : SV} {e : NE} (h : strCode v = some e) (σ : Sg) : v.den ρ σ = .string (deS (e.den ρ)) := by
  unfold strCode at h
  split at h <;> cases h
  · simp [SV.den, NE.den, deS_enS]
  · rfl
def isStrn (X Y : SV) : Bool := match X, Y with
  | .strn _, .strn _ => true
  | .strn _, .str _ => true
  | .str _, .strn _ => true
  | _, _ => false
def nnS (e : NE) : NE := match e with
  | .lit n => .lit (max n 0)
  | e => .bin .maxI e (.lit 0)
theorem nnS_den (e : NE) : (nnS e).den ρ = NOp.maxI.den (e.den ρ) 0 := by
  unfold nnS; split
  · simp only [NE.den, NOp.den]; omega
  · rfl
/-- Comparisons of texts. -/
theorem bs_list (a b : ByteArray) : (a.toList == b.toList) = decide (a = b) := by
  rw [ByteArray.toList_eq, ByteArray.toList_eq]
  by_cases h : a = b
  · subst h; simp
  · have : a.data.toList ≠ b.data.toList := fun e => h (by cases a; cases b; simp at e; rw [e])
    simp only [h, decide_false]
    simpa using this
def strBin (op : BinOp) (X Y : SV) : Option SV := if isStrn X Y then (match isEqOp op, strCode X, strCode Y with
  | some pos, some a, some b => some (.bool (if pos then mkIcmp .eql (nnS a) (nnS b) else mkNot (mkIcmp .eql (nnS a) (nnS b))))
  | _, _, _ => none) else none
theorem strBin_ok {op : BinOp} {t : TypeId} {x y : Operand} {X Y v : SV} (h : strBin op X Y = some v) (σ : Sg) :
    Runs P (do eqGuard op t x y (X.den ρ σ) (Y.den ρ σ); binOp op t (X.den ρ σ) (Y.den ρ σ)) (v.den ρ σ) ∧ ∀ n, v.inside n = true := by
  unfold strBin at h
  split at h
  · split at h
    · rename_i pos a b hop ha hb
      cases h
      refine ⟨fun w => ?_, fun _ => rfl⟩
      rw [strCode_den ha σ, strCode_den hb σ]
      have := seq_den (a.den ρ) (b.den ρ)
      cases op <;> simp only [isEqOp] at hop <;> cases hop <;> simp [eqGuard, binOp, Op.stringOp, SV.den, mkNot_den, mkIcmp_den, COp.int, nnS_den, bs_beq, bs_list, bne] at this ⊢ <;> rw [this]
    · cases h
  · cases h
def evBin (P : Program) (Γ : Facts) (op : BinOp) (t : TypeId) (x y : Operand) (X Y : SV) : Option SV := match X, Y with
  | .int k a, .int l b => if op = .shl ∨ op = .shr then shBin Γ op k a b else if k = l then intBin Γ op k a b else none
  | .float k a, .float l b => if k = l then flBin Γ op k a b else none
  | .complex k a b, .complex l c d => if k = l then coBin Γ op k a b c d else none
  | X, Y => match strBin op X Y with
   | some v => some v
   | none => match isEqOp op with
    | some pos => if genIf X Y || (genEq X Y && !P.eqGuardType P.depth t) then (eqS P 64 t X Y).map fun b => .bool (if pos then b else mkNot b) else litBin P op t x y X Y
    | none => litBin P op t x y X Y
theorem litBin_ok {op : BinOp} {t : TypeId} {x y : Operand} {X Y v : SV} (h : litBin P op t x y X Y = some v) (σ : Sg) :
    Runs P (do eqGuard op t x y (X.den ρ σ) (Y.den ρ σ); binOp op t (X.den ρ σ) (Y.den ρ σ)) (v.den ρ σ) ∧ ∀ n, v.inside n = true := by
  unfold litBin at h
  split at h
  · rename_i u u' hu hu'
    obtain ⟨r, hr, hv⟩ := Option.bind_eq_some_iff.1 h
    obtain ⟨e, s⟩ := ofVal_den (ρ := ρ) (σ := σ) _ _ _ hv
    rw [SV.lit_den _ _ hu, SV.lit_den _ _ hu', e]
    exact ⟨fun w => pureRun_run hr w, s⟩
  · cases h
theorem genEq_ok {op : BinOp} {pos : Bool} (hop : isEqOp op = some pos) {t : TypeId} {x y : Operand} {X Y : SV} (hg : genEq X Y = true) (ht : P.eqGuardType P.depth t = false) {b : BE} (h : eqS P 64 t X Y = some b) (σ : Sg) :
    Runs P (do eqGuard op t x y (X.den ρ σ) (Y.den ρ σ); binOp op t (X.den ρ σ) (Y.den ρ σ)) ((SV.bool (if pos then b else mkNot b)).den ρ σ) := by
  intro w
  have he := eqS_ok (ρ := ρ) (σ := σ) 64 t X Y b h 10000 (by omega) w
  unfold genEq at hg
  cases op <;> simp only [isEqOp] at hop <;> cases hop <;> split at hg <;> (try cases hg) <;>
    simp only [SV.den] at he <;>
    first
      | (simp [SV.den, eqGuard, ht, binOp, Op.equal, Op.maxDepth, he, mkNot_den]; done)
      | (rename_i a b _ <;> cases a <;> cases b <;> simp [SV.den, eqGuard, ht, binOp, Op.equal, Op.maxDepth, he, mkNot_den])
theorem genIf_ok {op : BinOp} {pos : Bool} (hop : isEqOp op = some pos) {t : TypeId} {x y : Operand} {X Y : SV} (hg : genIf X Y = true) {b : BE} (h : eqS P 64 t X Y = some b) (σ : Sg) :
    Runs P (do eqGuard op t x y (X.den ρ σ) (Y.den ρ σ); binOp op t (X.den ρ σ) (Y.den ρ σ)) ((SV.bool (if pos then b else mkNot b)).den ρ σ) := by
  intro w
  have he := eqS_ok (ρ := ρ) (σ := σ) 64 t X Y b h 10000 (by omega) w
  unfold genIf at hg
  cases op <;> simp only [isEqOp] at hop <;> cases hop <;> split at hg <;> (try cases hg) <;>
    simp only [SV.den] at he <;>
    simp [SV.den, eqGuard, binOp, Op.equal, Op.maxDepth, he, mkNot_den]
theorem evBin_ok (hΓ : Γ.Holds P ρ) {op : BinOp} {t : TypeId} {x y : Operand} {X Y v : SV} (h : evBin P Γ op t x y X Y = some v) (σ : Sg) :
    Runs P (do eqGuard op t x y (X.den ρ σ) (Y.den ρ σ); binOp op t (X.den ρ σ) (Y.den ρ σ)) (v.den ρ σ) ∧ ∀ n, v.inside n = true := by
  unfold evBin at h
  split at h
  · split at h
    · exact shBin_ok hΓ h σ t x y
    · split at h
      · rename_i hk; subst hk; exact intBin_ok hΓ h σ t x y
      · cases h
  · split at h
    · rename_i hk; subst hk; exact flBin_ok hΓ h σ t x y
    · cases h
  · split at h
    · rename_i hk; subst hk; exact coBin_ok hΓ h σ t x y
    · cases h
  · split at h
    · rename_i v' hv'; cases h; exact strBin_ok hv' σ
    split at h
    · rename_i pos hop
      split at h
      · rename_i hg
        simp only [Bool.or_eq_true, Bool.and_eq_true, Bool.not_eq_true'] at hg
        obtain ⟨b, hb, rfl⟩ := Option.map_eq_some_iff.1 h
        rcases hg with hg | hg
        · exact ⟨genIf_ok hop hg hb σ, fun _ => rfl⟩
        · exact ⟨genEq_ok hop hg.1 hg.2 hb σ, fun _ => rfl⟩
      · exact litBin_ok h σ
    · exact litBin_ok h σ

def evConv (P : Program) (Γ : Facts) (s d : TypeId) (x : SV) : Option SV :=
  match P.underlying s, P.underlying d with
  | some us, some ud => match ud, x with
    | .int k, .int _ n => some (.int k (nf Γ (mkWrap k n)))
    | .float k, .int _ n => some (.float k (nf Γ (mkToF k n)))
    | .int k, .float l (.lit b) => (pureRun P (Conv.floatToInt l b.toNat k)).bind (ofVal 2)
    | .int k, .float l b => (f2iL Γ l b k).map fun r => .int k r
    | .float k, .float l b => if l = k then some (.float k b) else (match b with
      | .lit n => (pureRun P (convert s d (.float l n.toNat))).bind (ofVal 64)
      | _ => none)
    | .complex k, .complex l a b => if l = k then some (.complex k a b) else none
    | .string, .str b => some (.str b)
    | .string, .strv i => some (.strv i)
    | .string, .strn e => some (.strn e)
    | _, _ => match x.lit? with
      | some u => (pureRun P (convert s d u)).bind (ofVal 64)
      | none => none
  | _, _ => none
theorem conv_int {s d : TypeId} {us : TypeDesc} {k k' : IntKind} {n : Int} (hs : P.underlying s = some us) (hd : P.underlying d = some (.int k)) : Runs P (convert s d (.int k' n)) (.int k (k.wrap n)) := by
  intro w
  simp only [convert, Sem.run_bind, run_underlying hs, run_underlying hd, Result.andThen_ok]
  cases us <;> rfl
theorem conv_toF {s d : TypeId} {us : TypeDesc} {k : FloatKind} {k' : IntKind} {n : Int} (hs : P.underlying s = some us) (hd : P.underlying d = some (.float k)) : Runs P (convert s d (.int k' n)) (.float k (k.nearest n)) := by
  intro w
  simp only [convert, Sem.run_bind, run_underlying hs, run_underlying hd, Result.andThen_ok]
  cases us <;> rfl
theorem conv_ofF {s d : TypeId} {us : TypeDesc} {k : IntKind} {l : FloatKind} {b : Nat} {v : Value} (hs : P.underlying s = some us) (hd : P.underlying d = some (.int k)) (h : Runs P (Conv.floatToInt l b k) v) : Runs P (convert s d (.float l b)) v := by
  intro w
  simp only [convert, Sem.run_bind, run_underlying hs, run_underlying hd, Result.andThen_ok]
  rw [← h w]
  try (cases us <;> rfl)
theorem conv_float {s d : TypeId} {us : TypeDesc} {k : FloatKind} {b : Nat} (hs : P.underlying s = some us) (hd : P.underlying d = some (.float k)) : Runs P (convert s d (.float k b)) (.float k b) := by
  intro w
  simp only [convert, Sem.run_bind, run_underlying hs, run_underlying hd, Result.andThen_ok]
  have : (Conv.floatToFloat k b k).run P w = .ok (.float k b) w := by simp [Conv.floatToFloat]
  rw [← this]
  try (cases us <;> rfl)
theorem conv_complex {s d : TypeId} {us : TypeDesc} {k : FloatKind} {a b : Nat} (hs : P.underlying s = some us) (hd : P.underlying d = some (.complex k)) : Runs P (convert s d (.complex k a b)) (.complex k a b) := by
  intro w
  simp only [convert, Sem.run_bind, run_underlying hs, run_underlying hd, Result.andThen_ok]
  have : (Conv.complexToComplex k a b k).run P w = .ok (.complex k a b) w := by simp [Conv.floatToFloat, Conv.complexToComplex]
  rw [← this]
  try (cases us <;> rfl)
theorem conv_string {s d : TypeId} {us : TypeDesc} {b : ByteArray} (hs : P.underlying s = some us) (hd : P.underlying d = some .string) : Runs P (convert s d (.string b)) (.string b) := by
  intro w
  simp only [convert, Sem.run_bind, run_underlying hs, run_underlying hd, Result.andThen_ok]
  cases us <;> rfl
theorem evConv_ok (hΓ : Γ.Holds P ρ) {s d : TypeId} {x v : SV} (h : evConv P Γ s d x = some v) (σ : Sg) : Runs P (convert s d (x.den ρ σ)) (v.den ρ σ) ∧ ∀ n, v.inside n = true := by
  unfold evConv at h
  split at h
  · rename_i us ud hs hd
    split at h
    · cases h
      simp only [SV.den, nf_den hΓ, mkWrap_den]
      exact ⟨conv_int hs hd, fun _ => rfl⟩
    · cases h
      simp only [SV.den, nf_den hΓ, mkToF_den, Int.toNat_natCast]
      exact ⟨conv_toF hs hd, fun _ => rfl⟩
    · obtain ⟨r, hr, hv⟩ := Option.bind_eq_some_iff.1 h
      obtain ⟨e, s'⟩ := ofVal_den (ρ := ρ) (σ := σ) _ _ _ hv
      rw [e]
      exact ⟨conv_ofF hs hd (pureRun_run hr), s'⟩
    · obtain ⟨r, hr, rfl⟩ := Option.map_eq_some_iff.1 h
      exact ⟨conv_ofF hs hd (f2iL_ok hΓ hr), fun _ => rfl⟩
    · split at h
      · rename_i hk; subst hk; cases h
        exact ⟨conv_float hs hd, fun _ => rfl⟩
      · split at h
        · obtain ⟨r, hr, hv⟩ := Option.bind_eq_some_iff.1 h
          obtain ⟨e, s'⟩ := ofVal_den (ρ := ρ) (σ := σ) _ _ _ hv
          rw [show (SV.float _ (.lit _)).den ρ σ = .float _ _ from rfl, e]
          exact ⟨fun w => pureRun_run hr w, s'⟩
        · cases h
    · split at h
      · rename_i hk; subst hk; cases h
        exact ⟨conv_complex hs hd, fun _ => rfl⟩
      · cases h
    · cases h; exact ⟨conv_string hs hd, fun _ => rfl⟩
    · cases h; exact ⟨conv_string hs hd, fun _ => rfl⟩
    · cases h; exact ⟨conv_string hs hd, fun _ => rfl⟩
    · split at h
      · rename_i u hu
        obtain ⟨r, hr, hv⟩ := Option.bind_eq_some_iff.1 h
        obtain ⟨e, s'⟩ := ofVal_den (ρ := ρ) (σ := σ) _ _ _ hv
        rw [SV.lit_den _ _ hu, e]
        exact ⟨fun w => pureRun_run hr w, s'⟩
      · cases h
  · cases h

def fillS (place : Nat → Option (Nat × Nat)) (cells : List SV) : List (Nat × SV) → Option (List SV)
  | [] => some cells
  | (i, v) :: rest => match place i with
    | none => none
    | some (off, size) => if v.cells.length ≠ size ∨ off + v.cells.length > cells.length then none else fillS place (setL cells off v.cells) rest

theorem foldl_zipIdx (off : Nat) : ∀ (l : List Value) (k : Nat) (cs : List Value), off + k + l.length ≤ cs.length →
    (l.zipIdx k).foldl (fun (cs : Array Value) (x : Value × Nat) => cs.setIfInBounds (off + x.2) x.1) cs.toArray = (setL cs (off + k) l).toArray
  | [], k, cs, _ => by simp [setL_nil]
  | v :: l, k, cs, h => by
    simp only [List.length_cons] at h
    simp only [List.zipIdx_cons, List.foldl_cons, List.setIfInBounds_toArray]
    rw [foldl_zipIdx off l (k + 1) (cs.set (off + k) v) (by simp; omega), ← Nat.add_assoc, setL_cons _ _ _ _ (by omega)]

theorem fill_ok {place : Nat → Option (Nat × Nat)} {σ : Sg} : ∀ {parts : List (Nat × SV)} {cells r : List SV}, fillS place cells parts = some r →
    (∀ p ∈ parts, p.2.isAny = false) → Instr.fill place (denL ρ σ cells).toArray (parts.map fun p => (p.1, p.2.den ρ σ)) = some (denL ρ σ r).toArray ∧ ∀ n, insideL n cells = true → (∀ p ∈ parts, p.2.inside n = true) → insideL n r = true
  | [], cells, r, h, _ => by cases h; exact ⟨by simp [Instr.fill], fun n h _ => h⟩
  | (i, v) :: parts, cells, r, h, hany => by
    have hv0 : v.isAny = false := hany (i, v) (by simp)
    simp only [fillS] at h
    split at h
    · cases h
    · rename_i off size hp
      split at h
      · cases h
      · rename_i hc
        simp only [not_or, Decidable.not_not, gt_iff_lt, Nat.not_lt, ne_eq] at hc
        obtain ⟨e, s⟩ := fill_ok (σ := σ) h fun p hp => hany p (by simp [hp])
        refine ⟨?_, fun n hn hv => s n ?_ fun p hp' => hv p (by simp [hp'])⟩
        · simp only [List.map_cons, Instr.fill, hp]
          rw [if_neg (by rw [SV.cells_den _ _ _ hv0]; simp [denL_length]; omega)]
          have hz := foldl_zipIdx off (denL ρ σ v.cells) 0 (denL ρ σ cells) (by simp [denL_length]; omega)
          rw [SV.cells_den _ _ _ hv0, Array.zipIdx_toArray, ← Array.foldl_toList]
          rw [show List.foldl (fun (cs : Array Value) (x : Value × Nat) => cs.setIfInBounds (off + x.2) x.1) (denL ρ σ cells).toArray (denL ρ σ v.cells).zipIdx.toArray.toList = (setL (denL ρ σ cells) off (denL ρ σ v.cells)).toArray from by simpa using hz]
          rw [← e]
          congr 2
          simp [denL_map, setL_map]
        · exact insideL_of fun x hx => (setL_mem hx).elim (insideL_mem hn) (insideL_mem (SV.cells_inside (hv (i, v) (by simp))))
end Go.Proofs.Ytgdhpgjfebinhaa.Ev
