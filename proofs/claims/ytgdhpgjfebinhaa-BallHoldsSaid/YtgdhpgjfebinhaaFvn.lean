/- Regions that draw their order: all orders; regions as a whole. -/
import Derived.OrdersIn
import Derived.Test.YtgdhpgjfebinhaaFvm
namespace Go.Proofs.Ytgdhpgjfebinhaa.Ev
set_option linter.unusedSimpArgs false
open Go Go.RowKit
set_option linter.unusedVariables false
set_option linter.unusedSectionVars false
variable {P : Program} {ρ : Env} {Γ : Facts}
variable {ds : List Deferred}

def allPairs (ops : Array Oper) (L : List TrI) (anc : Array Nat) : Bool :=
  (List.range ops.size).all fun j => match ops[j]?, L[j]? with
    | some o', some x' => (List.range j).all fun i => (anc.getD j 0).testBit i || match ops[i]?, L[i]? with
      | some o, some x => indep ops o x o' x'
      | _, _ => true
    | _, _ => true

/-- What of this can be told of the operations alone. -/
def statP (ops : Array Oper) (anc : Array Nat) : Bool :=
  (List.range ops.size).all fun j => match ops[j]? with
    | some o' => (List.range j).all fun i => (anc.getD j 0).testBit i || (match ops[i]? with
      | some o => o.apart ops o'
      | none => true)
    | none => true
def statR (ops : Array Oper) : Bool := statP ops (ancL ops.toList #[]) && backB ops.toList 0
/-- Those that write, or make memory. -/
def acts : List TrI → Nat → List (Nat × TrI)
  | [], _ => []
  | x :: l, i => if x.q then acts l (i + 1) else (i, x) :: acts l (i + 1)
def ordB (anc : Array Nat) (i j : Nat) : Bool := if i < j then (anc.getD j 0).testBit i else (anc.getD i 0).testBit j
def farAll (anc : Array Nat) (a : Nat) (x : TrI) : List TrI → Nat → Bool
  | [], _ => true
  | y :: l, i => (Nat.beq i a || (ordB anc i a || (x.far y && y.far x))) && farAll anc a x l (i + 1)
def dynP (L : List TrI) (anc : Array Nat) : Bool := (acts L 0).all fun p => farAll anc p.1 p.2 L 0
theorem acts_mem : ∀ {l : List TrI} {k i : Nat} {x : TrI}, l[i]? = some x → x.q = false → (k + i, x) ∈ acts l k
  | [], _, _, _, h, _ => by simp at h
  | y :: l, k, 0, x, h, hq => by
    simp at h; subst h
    simp [acts, hq]
  | y :: l, k, i + 1, x, h, hq => by
    simp at h
    have := acts_mem (k := k + 1) h hq
    rw [show k + 1 + i = k + (i + 1) by omega] at this
    simp only [acts]
    split
    · exact this
    · exact List.mem_cons_of_mem _ this
theorem farAll_get {anc : Array Nat} {a : Nat} {x : TrI} : ∀ {l : List TrI} {k i : Nat} {y : TrI}, farAll anc a x l k = true → l[i]? = some y → k + i ≠ a → ordB anc (k + i) a = true ∨ (x.far y = true ∧ y.far x = true)
  | [], _, _, _, _, h, _ => by simp at h
  | z :: l, k, 0, y, hf, h, hne => by
    simp at h; subst h
    simp only [farAll, Bool.and_eq_true, Bool.or_eq_true] at hf
    rcases hf.1 with h | h | h
    · exact absurd (Nat.eq_of_beq_eq_true h) hne
    · exact .inl h
    · exact .inr h
  | z :: l, k, i + 1, y, hf, h, hne => by
    simp at h
    simp only [farAll, Bool.and_eq_true] at hf
    have := farAll_get (k := k + 1) hf.2 h (by omega)
    rwa [show k + 1 + i = k + (i + 1) by omega] at this
theorem far_quiet {x y : TrI} (h : x.W = [] ∧ x.Hm.length = x.H.length) : x.far y = true := by
  unfold TrI.far TrI.wr TrI.mk_
  simp only [Bool.and_eq_true, List.all_eq_true, h.1, h.2]
  refine ⟨fun b _ => ?_, fun b _ => ?_⟩
  · simp; omega
  · simp; omega
theorem pairs_of {ops : Array Oper} {L : List TrI} (hq : ∀ (i : Nat) (x : TrI), L[i]? = some x → x.q = true → x.W = [] ∧ x.Hm.length = x.H.length) (h1 : statP ops (ancL ops.toList #[]) = true) (h2 : dynP L (ancL ops.toList #[]) = true) : allPairs ops L (ancL ops.toList #[]) = true := by
  generalize ancL ops.toList #[] = anc at *
  unfold allPairs
  refine List.all_eq_true.2 fun j hj => ?_
  have s1 := List.all_eq_true.1 h1 j hj
  cases ho' : ops[j]? with
  | none => simp
  | some o' =>
    rw [ho'] at s1
    cases hx' : L[j]? with
    | none => simp
    | some x' =>
      simp only
      refine List.all_eq_true.2 fun i hi => ?_
      have s2 := List.all_eq_true.1 s1 i hi
      have hij : i < j := List.mem_range.1 hi
      rcases hb : (anc.getD j 0).testBit i with _ | _
      · rw [hb] at s2
        cases ho : ops[i]? with
        | none => simp
        | some o =>
          rw [ho] at s2
          cases hx : L[i]? with
          | none => simp
          | some x =>
            simp only [Bool.false_or] at s2 ⊢
            have key : x.far x' = true ∧ x'.far x = true := by
              cases q1 : x.q with
              | false =>
                have := List.all_eq_true.1 h2 _ (acts_mem (k := 0) hx q1)
                rcases farAll_get (k := 0) this hx' (by omega) with h | h
                · simp only [ordB, Nat.zero_add] at h
                  rw [if_neg (by omega)] at h; rw [h] at hb; cases hb
                · exact h
              | true =>
                cases q2 : x'.q with
                | false =>
                  have := List.all_eq_true.1 h2 _ (acts_mem (k := 0) hx' q2)
                  rcases farAll_get (k := 0) this hx (by omega) with h | h
                  · simp only [ordB, Nat.zero_add] at h
                    rw [if_pos hij] at h; rw [h] at hb; cases hb
                  · exact ⟨h.2, h.1⟩
                | true => exact ⟨far_quiet (hq i x hx q1), far_quiet (hq j x' hx' q2)⟩
            simp only [indep, key.1, key.2, Bool.true_and]
            exact s2
      · rfl

theorem indep_symm {ops : Array Oper} {o o' : Oper} {x x' : TrI} (h : indep ops o x o' x' = true) (ha : o'.apart ops o = true) : indep ops o' x' o x = true := by
  simp only [indep, Bool.and_eq_true] at h ⊢
  exact ⟨h.2.1, h.1, ha⟩
theorem apart_symm {ops : Array Oper} {o o' : Oper} (h : o.apart ops o' = true) : o'.apart ops o = true := by
  obtain ⟨h1, h2, h3⟩ := Oper.apart_spec h
  unfold Oper.apart
  simp only [Bool.and_eq_true]
  constructor
  · cases hd : o'.dst with
    | none => rfl
    | some d =>
      simp only [Bool.and_eq_true, Bool.not_eq_true']
      refine ⟨?_, ?_⟩
      · have := h3 d hd; simpa using this
      · have : o.dst ≠ some d := fun e => h2 d e hd
        simpa using this
  · cases hd : o.dst with
    | none => rfl
    | some d => have := h1 d hd; simpa using this

theorem ordered_of {ops : Array Oper} {L : List TrI} {D : Nat → Bool} {j : Nat} (hcl : Closed ops D) (hcl' : Closed ops (addD D j)) (hD : D j = false) (hp : allPairs ops L (ancL ops.toList #[]) = true) : Ordered ops L D j := by
  intro i o x o' x' ho hx ho' hx' hne hdep
  have pair : ∀ {i j : Nat} {o x o' x'}, ops[i]? = some o → L[i]? = some x → ops[j]? = some o' → L[j]? = some x' → i < j → ((ancL ops.toList #[]).getD j 0).testBit i = true ∨ indep ops o x o' x' = true := by
    intro i j o x o' x' ho hx ho' hx' hlt
    have hjs : j < ops.size := (Array.getElem?_eq_some_iff.1 ho').1
    have h1 := List.all_eq_true.1 hp j (List.mem_range.2 hjs)
    rw [ho', hx'] at h1
    have h2 := List.all_eq_true.1 h1 i (List.mem_range.2 hlt)
    rw [ho, hx] at h2
    simpa [Bool.or_eq_true] using h2
  have anc : ∀ {D : Nat → Bool}, Closed ops D → ∀ j i, ((ancL ops.toList #[]).getD j 0).testBit i = true → D j = true → D i = true :=
    fun h j i => ancL_ok h ops.toList #[] (fun i => by simp) (fun j i hj => by simp at hj) j i
  have dep : ∀ {o x o' x'}, (indep ops o x o' x' = false ∨ indep ops o' x' o x = false) → indep ops o x o' x' = false := by
    intro o x o' x' h
    rcases h with h | h
    · exact h
    · cases h' : indep ops o x o' x' with
      | false => rfl
      | true =>
        have : o'.apart ops o = true := by
          simp only [indep, Bool.and_eq_true] at h'
          exact apart_symm h'.2.2
        rw [indep_symm h' this] at h; cases h
  refine ⟨fun hlt => ?_, fun hgt => ?_⟩
  · rcases pair ho hx ho' hx' hlt with h | h
    · have := anc hcl' j i h (addD_self D j)
      rwa [addD_ne (by omega)] at this
    · rw [dep hdep] at h; cases h
  · rcases pair ho' hx' ho hx hgt with h | h
    · cases hi : D i with
      | false => rfl
      | true => have := anc hcl i j h hi; rw [hD] at this; cases this
    · rw [dep hdep.symm] at h; cases h

theorem OpFx.ofPost {σ σ' : Sg} {x : TrI} {w w' : World} (h : Post P ρ σ σ' (maskF x.M 0 x.H) x.Hm x.W w w') : OpFx P ρ σ σ' x w w' := by
  have hl := maskF_length x.M x.H 0
  exact ⟨by have := h.ext; rwa [hl] at this, fun b y _ hb => (h.rel.blk b y hb).2, fun b b' y y' _ _ hb hb' => h.rel.inj b b' y y' hb hb', fun b h1 h2 => by have := h.new b (by rw [hl]; exact h1) h2; rwa [hl] at this,
    h.os, h.tape, h.out, h.size, h.kd, fun k hk hb => h.frame k hk fun b hbW hlt => hb b hbW (by rwa [hl] at hlt)⟩
theorem OpFx.none_ {σ : Sg} {x : TrI} {w : World} (h1 : x.Hm = x.H) (h2 : x.W = []) : OpFx P ρ σ σ x w w := by
  have hn : ∀ {b : Nat} {y : Blk}, (b ∈ x.W ∨ x.H.length ≤ b) → x.Hm[b]? = some (some y) → False := by
    intro b y hb hy
    rw [h2] at hb
    rcases hb with hb | hb
    · cases hb
    · rw [h1, List.getElem?_eq_none hb] at hy; cases hy
  exact ⟨fun _ _ => ⟨rfl, rfl, rfl, rfl⟩, fun b y hb hy => (hn hb hy).elim, fun b _ y _ hb _ hy _ => (hn hb hy).elim, fun b h3 h4 => by rw [h1] at h4; omega, rfl, rfl, rfl, Nat.le_refl _, Kd.refl _, fun _ _ _ => rfl⟩

theorem noSel {call : CallF} {T : List SV} {H : Hp} {o : Oper} {r : Out} (h : evOp P Γ call T H o = some r) : ∀ cs b, o.op ≠ .select cs b := by
  intro cs b e
  have h0 : evOp0 P Γ call T H o = none := by unfold evOp0; rw [e]
  unfold evOp at h
  rw [h0] at h
  unfold evOpR at h
  simp only [e] at h
  cases h

section
variable {call : CallF} {ops : Array Oper} {L : List TrI} {TN : List SV} {HN : Hp} (R : Reg P Γ call ops L TN HN)
include R

theorem Reg.wpOp {ro : Option Nat} {m : Nat} (hΓ : Γ.Holds P ρ) (hc : CallOk P ρ call) {D : Nat → Bool} {j : Nat} (hj : j < ops.size) (hD : D j = false) (hO : Ordered ops L D j) {σ0 σ : Sg} {w0 w : World} {a : Act} (I : Inv ds P ρ ops L TN HN σ0 σ w0 D a w)
    {K : Act → World → Prop} {Q : Exit → Act → World → Prop} (hK : ∀ σ' a' w', Inv ds P ρ ops L TN HN σ0 σ' w0 (addD D j) a' w' → K a' w') : wpOpIn (Rn ro) m P ops Q j K a w := by
  obtain ⟨o, x, ho, hx, e1, e2, h⟩ := R.at hj
  have hv : ∀ t ∈ o.looksAt ops, (x.T.getD t uS).isAny = false → a.tmps.getD t undef = (x.T.getD t uS).den ρ σ := by
    intro t ht hn
    have hs := R.seesT hj hD hO ho (.inl ht)
    have hn' : (vT L TN t j).isAny = false := by unfold vT; rw [← e1]; exact hn
    rw [I.tv t (by rw [hs]; exact hn'), hs, e1]; rfl
  have hs : a.tmps.size = x.T.length := by rw [I.ts, e1, R.lenT (i := j) (by omega)]
  have hg := guard_ok hΓ h.guard hs hv
  unfold Go.wpOpIn
  simp only [ho]
  cases hxg : x.g with
  | false =>
    rw [hxg] at hg
    rw [if_neg (by rw [hg]; decide)]
    obtain ⟨hv0, hm0, hw0, _⟩ := h.off hxg
    obtain ⟨σ', hI⟩ := R.inv_step hj hD hO I ho hx (OpFx.none_ (P := P) (ρ := ρ) (σ := σ) (w := w) hm0 hw0)
    rw [hv0, uS_den] at hI
    exact ⟨fun _ _ => trivial, hK _ _ _ hI⟩
  | true =>
    rw [hxg] at hg
    rw [if_pos hg]
    have hrun := h.run hxg
    let a' : Act := { tmps := (x.T.zipIdx.map fun p => if p.1.isAny then a.tmps.getD p.2 undef else p.1.den ρ σ).toArray, defers := [] }
    have hT : TRel [] ρ σ (maskF x.M 0 x.H).length x.T a' := by
      refine ⟨fun t hn => ?_, fun v hv => ?_, by simp [a'], rfl⟩
      · by_cases ht : t < x.T.length
        · simp only [List.getD_eq_getElem?_getD, List.getElem?_eq_getElem ht, Option.getD_some] at hn
          simp [a', List.getD_eq_getElem?_getD, ht, hn]
        · simp [a', List.getD_eq_getElem?_getD, List.getElem?_eq_none (Nat.le_of_not_lt ht), uS_den, ht]
      · rw [maskF_length, e2]; rw [e1] at hv; exact R.insTA (by omega) v hv
    have hH : HRel P ρ σ (maskF x.M 0 x.H) w := by
      have come : ∀ b y, (maskF x.M 0 x.H)[b]? = some (some y) → (HD L HN ops.size D)[b]? = some (some y) ∧ vB L HN b j = some y := by
        intro b y hb
        obtain ⟨hm, hy⟩ := mask_some hb
        have hvb : vB L HN b j = some y := by unfold vB; rw [← e2, some_getB hy]
        have hlt : b < HN.length := by
          have h1 := h.mlt b hm
          have := R.lenM (i := j) (j := ops.size) (by omega) (Nat.le_refl _)
          rw [R.end_.2, ← e2] at this; omega
        rw [HD_get hlt, R.seesB hj hD hO hx hm, hvb]; exact ⟨rfl, rfl⟩
      refine ⟨fun b y hb => ?_, fun b b' y y' hb hb' => I.post.rel.inj b b' y y' (come b y hb).1 (come b' y' hb').1⟩
      refine ⟨?_, (I.post.rel.blk b y (come b y hb).1).2⟩
      rw [maskF_length, e2]; exact R.insBA (by omega) b y (come b y hb).2
    have hres := evOp_ok hΓ hc hrun hT hH
    have hcong : execOp a'.eval o = execOp a.eval o := by
      refine execOp_congr o (noSel hrun) fun u hu => ?_
      cases u with
      | tmp t =>
        have hin : t ∈ o.looksAt ops := List.mem_append_left _ (List.mem_filterMap.2 ⟨.tmp t, by simpa using hu, rfl⟩)
        show a'.tmps.getD t undef = a.tmps.getD t undef
        by_cases hn : (x.T.getD t uS).isAny = true
        · have ht : t < x.T.length := by
            by_cases ht : t < x.T.length
            · exact ht
            · rw [List.getD_eq_getElem?_getD, List.getElem?_eq_none (Nat.le_of_not_lt ht)] at hn; cases hn
          simp only [List.getD_eq_getElem?_getD, List.getElem?_eq_getElem ht, Option.getD_some] at hn
          simp [a', ht, hn]
        · have hn : (x.T.getD t uS).isAny = false := by simpa using hn
          rw [hT.val t hn, hv t hin hn]
      | _ => rfl
    rw [hcong] at hres
    refine hres.wp (evOp_defer hrun) fun u w' ⟨σ', hp, hu, hin⟩ => ?_
    subst hu
    obtain ⟨σ'', hI⟩ := R.inv_step hj hD hO I ho hx (OpFx.ofPost hp)
    exact hK _ _ _ hI
end

theorem getD_eq_false {l : Array Bool} {i : Nat} (h : l.getD i true = false) : l.getD i false = false := by
  by_cases hi : i < l.size
  · simp [hi] at h ⊢; exact h
  · simp [Array.getElem?_eq_none (Nat.le_of_not_lt hi)] at h

/-- How many have not come up yet. -/
def left (done : Array Bool) (n : Nat) : Nat := (List.range n).countP fun i => !done.getD i false

theorem countP_range_lt {p q : Nat → Bool} {n j : Nat} (hj : j < n) (hp : p j = true) (hq : q j = false) (h : ∀ i, q i = true → p i = true) : (List.range n).countP q < (List.range n).countP p := by
  induction n with
  | zero => omega
  | succ n ih =>
    rw [List.range_succ, List.countP_append, List.countP_append]
    simp only [List.countP_singleton]
    by_cases e : j = n
    · subst e
      have : (List.range j).countP q ≤ (List.range j).countP p := List.countP_mono_left fun i _ => h i
      rw [if_pos hp, if_neg (by rw [hq]; decide)]; omega
    · have := ih (by omega)
      by_cases hqn : q n = true
      · rw [if_pos hqn, if_pos (h n hqn)]; omega
      · rw [if_neg hqn]; omega

theorem least_undone {D : Nat → Bool} {n : Nat} : (∀ i, i < n → D i = true) ∨ ∃ i, i < n ∧ D i = false ∧ ∀ k, k < i → D k = true := by
  induction n with
  | zero => exact .inl fun i h => by omega
  | succ n ih =>
    rcases ih with h | ⟨i, hi, h⟩
    · cases hn : D n with
      | true =>
        left
        intro i hi
        by_cases e : i = n
        · rw [e]; exact hn
        · exact h i (by omega)
      | false => exact .inr ⟨n, by omega, hn, h⟩
    · exact .inr ⟨i, by omega, h⟩

theorem backB_ok : ∀ (l : List Oper) (k : Nat), backB l k = true → ∀ i o, l[i]? = some o → ∀ e ∈ o.after, Region.binds .any e = true → e.on < k + i
  | [], k, _, i, o, h => by simp at h
  | o' :: l, k, hb, i, o, h => by
    simp only [backB, Bool.and_eq_true] at hb
    intro e he hbind
    cases i with
    | zero =>
      simp at h; subst h
      have := List.all_eq_true.1 hb.1 e (by simpa using he)
      simp [hbind] at this; omega
    | succ i =>
      simp at h
      have := backB_ok l (k + 1) hb.2 i o h e he hbind
      omega

theorem Reg.all {ro : Option Nat} {m : Nat} (hΓ : Γ.Holds P ρ) {call : CallF} (hc : CallOk P ρ call) {ops : Array Oper} {L : List TrI} {TN : List SV} {HN : Hp} (R : Reg P Γ call ops L TN HN) (hp : allPairs ops L (ancL ops.toList #[]) = true) (hb : backB ops.toList 0 = true)
    {σ0 : Sg} {w0 : World} {Q : Exit → Act → World → Prop} (hQ : ∀ σ a w, (∃ D : Nat → Bool, (∀ i, i < ops.size → D i = true) ∧ Inv ds P ρ ops L TN HN σ0 σ w0 D a w) → Q .normal a w) :
    ∀ (fuel : Nat) (done : Array Bool) (σ : Sg) (a : Act) (w : World), done.size = ops.size → Closed ops (fun i => done.getD i false) → left done ops.size ≤ fuel → Inv ds P ρ ops L TN HN σ0 σ w0 (fun i => done.getD i false) a w → wpAnyIn (Rn ro) m P .any ops Q fuel done a w := by
  have fin : ∀ (done : Array Bool) (σ : Sg) (a : Act) (w : World), done.size = ops.size → Region.ready .any ops done = [] → Inv ds P ρ ops L TN HN σ0 σ w0 (fun i => done.getD i false) a w → Q .normal a w := by
    intro done σ a w hs hr I
    refine hQ σ a w ⟨_, ?_, I⟩
    rcases least_undone (D := fun i => done.getD i false) (n := ops.size) with h | ⟨i, hi, hd, hk⟩
    · exact h
    · exfalso
      have hm : i ∈ Region.ready .any ops done := by
        refine mem_ready.2 ⟨?_, ops[i], by simp [hi], fun e he hbind => hk e.on ?_⟩
        · have his : i < done.size := by omega
          simp [his] at hd ⊢; exact hd
        · have := backB_ok ops.toList 0 hb i ops[i] (by simp [hi]) e he hbind
          omega
      rw [hr] at hm; cases hm
  intro fuel
  induction fuel with
  | zero =>
    intro done σ a w hs hcl hl I
    have hr : Region.ready .any ops done = [] := by
      cases hr : Region.ready .any ops done with
      | nil => rfl
      | cons i l =>
        exfalso
        have hi : i ∈ Region.ready .any ops done := by rw [hr]; simp
        obtain ⟨h0, o, ho, _⟩ := mem_ready.1 hi
        have hlt : i < ops.size := (Array.getElem?_eq_some_iff.1 ho).1
        have : left done ops.size = 0 := Nat.le_zero.1 hl
        unfold left at this
        have h2 := List.countP_eq_zero.1 this i (List.mem_range.2 hlt)
        rw [getD_eq_false h0] at h2
        exact h2 rfl
    exact ⟨hr, fin done σ a w hs hr I⟩
  | succ fuel ih =>
    intro done σ a w hs hcl hl I
    refine ⟨fun hr => fin done σ a w hs hr I, fun i hi => ?_⟩
    obtain ⟨h0, o, ho, hall⟩ := mem_ready.1 hi
    have hlt : i < ops.size := (Array.getElem?_eq_some_iff.1 ho).1
    have hd : done.getD i false = false := getD_eq_false h0
    have hsz : i < done.size := by omega
    have hnew : ∀ k, (done.setIfInBounds i true).getD k false = addD (fun i => done.getD i false) i k := by
      intro k
      by_cases e : k = i
      · subst e; simp [addD, hsz]
      · rw [addD_ne e, getD_set_ne false (Ne.symm e)]
    have hcl' : Closed ops (addD (fun i => done.getD i false) i) := by
      intro k ok hok hk e he hbind
      by_cases ek : k = i
      · subst ek
        rw [ho] at hok; cases hok
        have := hall e he hbind
        simp [addD, this]
      · rw [addD_ne ek] at hk
        have := hcl k ok hok hk e he hbind
        simp only [addD, Bool.or_eq_true]; exact .inl this
    refine R.wpOp hΓ hc hlt hd (ordered_of hcl hcl' hd hp) I fun σ' a' w' I' => ?_
    have hfun : (fun k => (done.setIfInBounds i true).getD k false) = addD (fun i => done.getD i false) i := funext hnew
    refine ih _ σ' a' w' (by simp [hs]) (by rw [hfun]; exact hcl') ?_ (by rw [hfun]; exact I')
    have : left (done.setIfInBounds i true) ops.size < left done ops.size := by
      refine countP_range_lt hlt (by rw [hd]; rfl) (by rw [hnew, addD_self]; rfl) fun k hk => ?_
      rw [hnew] at hk
      by_cases e : k = i
      · subst e; rw [hd]; rfl
      · rwa [addD_ne e] at hk
    omega
end Go.Proofs.Ytgdhpgjfebinhaa.Ev
