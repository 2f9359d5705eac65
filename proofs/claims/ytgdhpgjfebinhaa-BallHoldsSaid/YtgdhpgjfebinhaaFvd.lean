/- The symbolic machine's operations on structs, arrays and conversions. -/
import Derived.Test.YtgdhpgjfebinhaaFvc
namespace Go.Proofs.Ytgdhpgjfebinhaa.Ev
set_option linter.unusedSimpArgs false
open Go Go.RowKit
set_option linter.unusedVariables false
variable {P : Program} {ρ : Env} {Γ : Facts}

theorem ofValL_den {σ : Sg} (d : Nat) : ∀ (l : List Value) (r : List SV), l.mapM (ofVal d) = some r → denL ρ σ r = l ∧ ∀ n, insideL n r = true := by
  intro l
  induction l with
  | nil => intro r hr; simp at hr; subst hr; exact ⟨rfl, fun _ => rfl⟩
  | cons a l ih =>
    intro r hr
    simp only [List.mapM_cons, Option.pure_def, Option.bind_eq_bind, Option.bind_eq_some_iff] at hr
    obtain ⟨b, hb, bs, hbs, he⟩ := hr
    cases he
    obtain ⟨e1, s1⟩ := ofVal_den (ρ := ρ) (σ := σ) d a b hb
    obtain ⟨e2, s2⟩ := ih bs hbs
    exact ⟨by simp [denL, e1, e2], fun n => by simp [insideL, s1 n, s2 n]⟩

theorem denL_length (σ : Sg) (l : List SV) : (denL ρ σ l).length = l.length := by simp [denL_map]
theorem denL_append (σ : Sg) (l r : List SV) : denL ρ σ (l ++ r) = denL ρ σ l ++ denL ρ σ r := by simp [denL_map]

/-- Whether a type is a struct or an array. -/
def aggD : TypeDesc → Bool
  | .struct _ => true
  | .array _ _ => true
  | _ => false
theorem run_isAgg {t : TypeId} {d : TypeDesc} (h : P.underlying t = some d) : Runs P (isAgg t) (aggD d) := by
  intro w
  simp only [isAgg, Sem.run_bind, run_underlying h, Result.andThen_ok]
  cases d <;> simp [aggD]
theorem run_sizeOf {t : TypeId} {i : TypeInfo} (h : P.info? t = some i) : Runs P (sizeOf t) i.size := by
  intro w; simp [sizeOf, typeInfo, h]
theorem run_zeroValue {t : TypeId} {i : TypeInfo} {z : Value} (h : P.info? t = some i) (hz : i.zero = some z) : Runs P (zeroValue t) z := by
  intro w; simp [zeroValue, typeInfo, h, hz]

def partS (P : Program) (t : TypeId) (cs : List SV) (off : Nat) : Option SV :=
  match P.underlying t with
  | none => none
  | some d => if aggD d then (P.info? t).map fun i => .agg ((cs.drop off).take i.size) else cs[off]?
theorem part_ok {t : TypeId} {cs : List SV} {off : Nat} {v : SV} (h : partS P t cs off = some v) (σ : Sg) :
    Runs P (part t (denL ρ σ cs).toArray off) (v.den ρ σ) ∧ ∀ n, insideL n cs = true → v.inside n = true := by
  unfold partS at h
  split at h
  · cases h
  · rename_i d hd
    split at h
    · rename_i ha
      obtain ⟨i, hi, rfl⟩ := Option.map_eq_some_iff.1 h
      refine ⟨fun w => ?_, fun n hn => insideL_of fun v hv => insideL_mem hn (List.mem_of_mem_drop (List.mem_of_mem_take hv))⟩
      simp [part, run_isAgg hd w, ha, run_sizeOf hi w, SV.den, denL_map, List.map_take, List.map_drop]
    · rename_i ha
      refine ⟨fun w => ?_, fun n hn => insideL_mem hn (List.mem_of_getElem? h)⟩
      simp [part, run_isAgg hd w, ha, denL_map, h]

def eqFs (P : Program) (eq : TypeId → SV → SV → Option BE) (xs ys : List SV) : List Field → Option BE
  | [] => some (.lit true)
  | f :: fs => if f.name ≠ "_" then
      match partS P f.type xs f.offset, partS P f.type ys f.offset with
      | some a, some b => match eq f.type a b, eqFs P eq xs ys fs with
        | some r, some s => some (mkAnd r s)
        | _, _ => none
      | _, _ => none
    else eqFs P eq xs ys fs
def eqAs (P : Program) (eq : TypeId → SV → SV → Option BE) (e : TypeId) (n : Nat) (xs ys : List SV) : List Nat → Option BE
  | [] => some (.lit true)
  | i :: l => match partS P e xs (i * n), partS P e ys (i * n) with
      | some a, some b => match eq e a b, eqAs P eq e n xs ys l with
        | some r, some s => some (mkAnd r s)
        | _, _ => none
      | _, _ => none
def eqS (P : Program) : Nat → TypeId → SV → SV → Option BE
  | 0, _, _, _ => none
  | d + 1, t, x, y => match P.underlying t, x, y with
    | some .bool, .bool a, .bool b => some (mkBeq a b)
    | some (.int _), .int k a, .int l b => if k = l then some (mkIcmp .eql a b) else none
    | some (.float _), .float k a, .float l b => if k = l then some (mkFcmp k .eql a b) else none
    | some (.complex _), .complex k a b, .complex l c d => if k = l then some (mkAnd (mkFcmp k .eql a c) (mkFcmp k .eql b d)) else none
    | some .string, .str a, .str b => some (.lit (a == b))
    | some .string, .strn a, .strn b => some (mkIcmp .eql (.bin .maxI a (.lit 0)) (.bin .maxI b (.lit 0)))
    | some .string, .strn a, .str b => some (mkIcmp .eql (.bin .maxI a (.lit 0)) (.lit (enS b)))
    | some .string, .str a, .strn b => some (mkIcmp .eql (.lit (enS a)) (.bin .maxI b (.lit 0)))
    | some (.struct fs), .agg xs, .agg ys => if P.stoodInHeld t then none else eqFs P (eqS P d) xs ys fs.toList
    | some (.array len e), .agg xs, .agg ys => match P.info? e with
      | some i => eqAs P (eqS P d) e i.size xs ys (List.range' 0 len)
      | none => none
    | some (.slice _), .slice none _ _, .slice b _ _ => some (.lit b.isNone)
    | some (.slice _), .slice (some _) _ _, .slice none _ _ => some (.lit false)
    | some (.slice _), .vec _ _, .slice none _ _ => some (.lit false)
    | some (.slice _), .slice none _ _, .vec _ _ => some (.lit false)
    | some (.interface _), .nilIface, .nilIface => some (.lit true)
    | some (.interface _), .nilIface, .iface _ _ => some (.lit false)
    | some (.interface _), .iface _ _, .nilIface => some (.lit false)
    | _, _, _ => none

theorem eqFs_ok {eq : TypeId → SV → SV → Option BE} {D : Nat} {σ : Sg} (he : ∀ t x y b, eq t x y = some b → Runs P (Op.equalIn D t (x.den ρ σ) (y.den ρ σ)) (b.den ρ)) (xs ys : List SV) :
    ∀ (fs : List Field) (b : BE), eqFs P eq xs ys fs = some b → Runs P (Op.eqFields D (denL ρ σ xs).toArray (denL ρ σ ys).toArray fs) (b.den ρ)
  | [], b, h => by cases h; intro w; simp [Op.eqFields, BE.den]
  | f :: fs, b, h => by
    intro w
    simp only [eqFs] at h
    unfold Op.eqFields
    split at h
    · rename_i hn
      split at h
      · rename_i a c ha hc
        split at h
        · rename_i r s hr hs
          cases h
          have h1 := (part_ok (ρ := ρ) ha σ).1 w
          have h2 := (part_ok (ρ := ρ) hc σ).1 w
          have h3 := he _ _ _ _ hr w
          have h4 := eqFs_ok he xs ys fs s hs w
          rw [if_pos hn]
          simp only [Sem.run_bind, h1, h2, h3, Result.andThen_ok, mkAnd_den]
          cases hb : r.den ρ <;> simp [h4]
        · cases h
      · cases h
    · rename_i hn
      rw [if_neg hn]
      exact eqFs_ok he xs ys fs b h w

theorem eqAs_ok {eq : TypeId → SV → SV → Option BE} {D : Nat} {σ : Sg} (he : ∀ t x y b, eq t x y = some b → Runs P (Op.equalIn D t (x.den ρ σ) (y.den ρ σ)) (b.den ρ)) (e : TypeId) (n : Nat) (xs ys : List SV) :
    ∀ (l : List Nat) (b : BE), eqAs P eq e n xs ys l = some b →
      ∀ w, ∃ r : Option Bool, (forIn l ((none : Option Bool), ()) (fun i (_ : Option Bool × Unit) => do
        let a ← part e (denL ρ σ xs).toArray (i * n)
        let c ← part e (denL ρ σ ys).toArray (i * n)
        let q ← Op.equalIn D e a c
        if (!q) = true then pure (ForInStep.done (some false, ())) else pure (ForInStep.yield (none, ()))) : Sem (Option Bool × Unit)).run P w = .ok (r, ()) w ∧ r.getD true = b.den ρ ∧ (r = none ∨ r = some false)
  | [], b, h => by cases h; intro w; exact ⟨none, by simp, rfl, .inl rfl⟩
  | i :: l, b, h => by
    intro w
    simp only [eqAs] at h
    split at h
    · rename_i a c ha hc
      split at h
      · rename_i r s hr hs
        cases h
        have h1 := (part_ok (ρ := ρ) ha σ).1 w
        have h2 := (part_ok (ρ := ρ) hc σ).1 w
        have h3 := he _ _ _ _ hr w
        obtain ⟨q, h4, h5, h6⟩ := eqAs_ok he e n xs ys l s hs w
        cases hb : r.den ρ
        · rw [hb] at h3
          exact ⟨some false, by simp [h1, h2, h3], by simp [mkAnd_den, hb], .inr rfl⟩
        · rw [hb] at h3
          exact ⟨q, by simpa [h1, h2, h3] using h4, by simp [mkAnd_den, hb, h5], h6⟩
      · cases h
    · cases h

theorem bs_beq (a b : ByteArray) : (a == b) = decide (a = b) := by
  obtain ⟨x⟩ := a; obtain ⟨y⟩ := b
  have : (ByteArray.mk x == ByteArray.mk y) = (x == y) := rfl
  rw [this]
  by_cases h : x = y
  · subst h; simp
  · have h2 : (x == y) = false := by simpa using h
    rw [h2]
    have : ByteArray.mk x ≠ ByteArray.mk y := fun e => h (ByteArray.mk.inj e)
    simp [this]
theorem seq_den (x y : Int) : (deS x == deS y) = (NOp.maxI.den x 0 == NOp.maxI.den y 0) := by
  rw [bs_beq, Bool.eq_iff_iff, decide_eq_true_iff, beq_iff_eq, deS_inj]
  simp only [NOp.den]; omega
theorem enS_nn (s : ByteArray) : 0 ≤ enS s := Int.natCast_nonneg _
theorem seq_den1 (x : Int) (s : ByteArray) : (deS x == s) = (NOp.maxI.den x 0 == enS s) := by
  have h := seq_den x (enS s)
  rw [deS_enS] at h
  rw [h]
  have := enS_nn s
  have e : NOp.maxI.den (enS s) 0 = enS s := by simp only [NOp.den]; omega
  rw [e]
theorem seq_den2 (x : Int) (s : ByteArray) : (s == deS x) = (enS s == NOp.maxI.den x 0) := by
  have h := seq_den (enS s) x
  rw [deS_enS] at h
  rw [h]
  have := enS_nn s
  have e : NOp.maxI.den (enS s) 0 = enS s := by simp only [NOp.den]; omega
  rw [e]
theorem eqS_ok {σ : Sg} : ∀ (d : Nat) (t : TypeId) (x y : SV) (b : BE), eqS P d t x y = some b → ∀ D, d ≤ D → Runs P (Op.equalIn D t (x.den ρ σ) (y.den ρ σ)) (b.den ρ)
  | 0, _, _, _, _, h, _, _ => by cases h
  | d + 1, t, x, y, b, h, 0, hD => by omega
  | d + 1, t, x, y, b, h, D + 1, hD => by
    have ih : ∀ t x y b, eqS P d t x y = some b → Runs P (Op.equalIn D t (x.den ρ σ) (y.den ρ σ)) (b.den ρ) := fun t x y b h => eqS_ok d t x y b h D (by omega)
    simp only [eqS] at h
    intro w
    split at h
    · rename_i hu; cases h; simp [SV.den, Op.equalIn, run_underlying hu, mkBeq_den]
    · rename_i hu
      split at h
      · rename_i hk; subst hk; cases h; simp [SV.den, Op.equalIn, run_underlying hu, mkIcmp_den, COp.int]
      · cases h
    · rename_i hu
      split at h
      · rename_i hk; subst hk; cases h; simp [SV.den, Op.equalIn, run_underlying hu, mkFcmp_den, COp.flo, Op.floatEq]
      · cases h
    · rename_i hu
      split at h
      · rename_i hk; subst hk; cases h; simp [SV.den, Op.equalIn, run_underlying hu, mkFcmp_den, mkAnd_den, COp.flo, Op.floatEq]
      · cases h
    · rename_i hu; cases h; simp [SV.den, Op.equalIn, run_underlying hu, BE.den]
    · rename_i hu; cases h; simp [SV.den, Op.equalIn, run_underlying hu, mkIcmp_den, COp.int, NE.den, seq_den]
    · rename_i hu; cases h; simp [SV.den, Op.equalIn, run_underlying hu, mkIcmp_den, COp.int, NE.den, seq_den1]
    · rename_i hu; cases h; simp [SV.den, Op.equalIn, run_underlying hu, mkIcmp_den, COp.int, NE.den, seq_den2]
    · rename_i fs xs ys hu
      split at h
      · cases h
      · rename_i hp
        have hf : P.fieldsOf t = fs := by simp [Program.fieldsOf, hu]
        simp only [SV.den]
        rw [run_equalIn_struct (P := P) w D t _ _ (by rw [hf]; exact hu) (by simpa using hp), hf]
        exact eqFs_ok ih xs ys _ b h w
    · rename_i len e xs ys hu
      split at h
      · rename_i i hi
        obtain ⟨r, h1, h2, h3⟩ := eqAs_ok (σ := σ) ih e i.size xs ys _ b h w
        simp only [SV.den, Op.equalIn, Sem.run_bind, run_underlying hu, Result.andThen_ok, run_sizeOf hi w]
        rw [Std.Legacy.Range.forIn_eq_forIn_range']
        simp only [Std.Legacy.Range.size, Nat.sub_zero, Nat.add_sub_cancel, Nat.div_one, h1, Result.andThen_ok]
        rcases h3 with rfl | rfl <;> simp [← h2]
      · cases h
    · rename_i hu; cases h; simp [SV.den, Op.equalIn, run_underlying hu, BE.den]
    · rename_i hu; cases h; simp [SV.den, Op.equalIn, run_underlying hu, BE.den]
    · rename_i hu; cases h; simp [SV.den, Op.equalIn, run_underlying hu, BE.den]
    · rename_i hu; cases h; simp [SV.den, Op.equalIn, run_underlying hu, BE.den]
    · rename_i hu; cases h; simp [SV.den, Op.equalIn, run_underlying hu, BE.den]
    · rename_i hu; cases h; simp [SV.den, Op.equalIn, run_underlying hu, BE.den]
    · rename_i hu; cases h; simp [SV.den, Op.equalIn, run_underlying hu, BE.den]
    · cases h
end Go.Proofs.Ytgdhpgjfebinhaa.Ev
