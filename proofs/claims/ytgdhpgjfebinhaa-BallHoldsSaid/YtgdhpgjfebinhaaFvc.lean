/- The symbolic machine's operations on numbers, truths and whole values. -/
import Derived.Test.YtgdhpgjfebinhaaFvb
import Derived.Test.YtgdhpgjfebinhaaFvaa
namespace Go.Proofs.Ytgdhpgjfebinhaa.Ev
set_option linter.unusedSimpArgs false
open Go Go.RowKit
set_option linter.unusedVariables false

mutual
def SV.same : SV → SV → Bool
  | .bool a, .bool b => decide (a = b)
  | .int k a, .int l b => decide (k = l) && decide (a = b)
  | .float k a, .float l b => decide (k = l) && decide (a = b)
  | .complex k a c, .complex l b d => decide (k = l) && (decide (a = b) && decide (c = d))
  | .str a, .str b => decide (a = b)
  | .strv a, .strv b => decide (a = b)
  | .any a, .any b => decide (a = b)
  | .ptr a, .ptr b => decide (a = b)
  | .slice a n c, .slice b m d => decide (a = b) && (decide (n = m) && decide (c = d))
  | .vec a n, .vec b m => decide (a = b) && decide (n = m)
  | .asl a n, .asl b m => decide (a = b) && decide (n = m)
  | .yld a, .yld b => decide (a = b)
  | .vsl a s l n, .vsl b t k m => decide (a = b) && (decide (s = t) && (decide (l = k) && decide (n = m)))
  | .rsl a s l n, .rsl b t k m => decide (a = b) && (decide (s = t) && (decide (l = k) && decide (n = m)))
  | .eptr a i s c, .eptr b j u d => decide (a = b) && (decide (i = j) && (decide (s = u) && decide (c = d)))
  | .strn a, .strn b => decide (a = b)
  | .func f a c, .func g b d => decide (f = g) && (sameL a b && sameL c d)
  | .nilFunc, .nilFunc => true
  | .nilIface, .nilIface => true
  | .iface t a, .iface u b => decide (t = u) && a.same b
  | .agg a, .agg b => sameL a b
  | .tuple a, .tuple b => sameL a b
  | _, _ => false
def sameL : List SV → List SV → Bool
  | [], [] => true
  | a :: l, b :: r => a.same b && sameL l r
  | _, _ => false
end
mutual
theorem SV.same_eq : ∀ a b : SV, a.same b = true → a = b
  | .bool a, b, h => by cases b <;> simp_all [SV.same]
  | .int k a, b, h => by cases b <;> simp_all [SV.same]
  | .float k a, b, h => by cases b <;> simp_all [SV.same]
  | .complex k a c, b, h => by cases b <;> simp_all [SV.same]
  | .str a, b, h => by cases b <;> simp_all [SV.same]
  | .strv a, b, h => by cases b <;> simp_all [SV.same]
  | .any a, b, h => by cases b <;> simp_all [SV.same]
  | .ptr a, b, h => by cases b <;> simp_all [SV.same]
  | .slice a n c, b, h => by cases b <;> simp_all [SV.same]
  | .vec a n, b, h => by cases b <;> simp_all [SV.same]
  | .asl a n, b, h => by cases b <;> simp_all [SV.same]
  | .eptr _ _ _ _, b, h => by cases b <;> simp_all [SV.same]
  | .yld _, b, h => by cases b <;> simp_all [SV.same]
  | .vsl _ _ _ _, b, h => by cases b <;> simp_all [SV.same]
  | .rsl _ _ _ _, b, h => by cases b <;> simp_all [SV.same]
  | .strn a, b, h => by cases b <;> simp_all [SV.same]
  | .nilFunc, b, h => by cases b <;> simp_all [SV.same]
  | .nilIface, b, h => by cases b <;> simp_all [SV.same]
  | .iface t a, b, h => by
    cases b with
    | iface u b =>
      simp only [SV.same, Bool.and_eq_true, decide_eq_true_eq] at h
      rw [h.1, SV.same_eq a b h.2]
    | _ => simp [SV.same] at h
  | .func f a c, b, h => by
    cases b with
    | func g b d =>
      simp only [SV.same, Bool.and_eq_true, decide_eq_true_eq] at h
      rw [h.1, sameL_eq a b h.2.1, sameL_eq c d h.2.2]
    | _ => simp [SV.same] at h
  | .agg a, b, h => by
    cases b with
    | agg b => simp only [SV.same] at h; rw [sameL_eq a b h]
    | _ => simp [SV.same] at h
  | .tuple a, b, h => by
    cases b with
    | tuple b => simp only [SV.same] at h; rw [sameL_eq a b h]
    | _ => simp [SV.same] at h
theorem sameL_eq : ∀ a b : List SV, sameL a b = true → a = b
  | [], [], _ => rfl
  | a :: l, b :: r, h => by
    simp only [sameL, Bool.and_eq_true] at h
    rw [SV.same_eq a b h.1, sameL_eq l r h.2]
  | [], _ :: _, h => by simp [sameL] at h
  | _ :: _, [], h => by simp [sameL] at h
end

/-- A call that sees these blocks: what it returns, and the blocks that it makes. -/
structure CallE where
  f : FuncId
  args : List SV
  M : List Nat
  HM : Hp
  r : SV
  Hn : Hp
  deriving Inhabited
def CallE.Ok (P : Program) (ρ : Env) (c : CallE) : Prop := ∀ (σ : Sg) (w : World), HRel P ρ σ c.HM w → Calls P c.f (denL ρ σ c.args).toArray w fun e w' => ∃ σ', Post P ρ σ σ' c.HM (c.HM ++ c.Hn) [] w w' ∧ e = .returned (c.r.den ρ σ')
/-- What is known. -/
structure Facts where
  eqs : List (NE × NE) := []
  bits : List (BE × Bool) := []
  fl : List ((BinOp × FloatKind × NE × NE) × NE) := []
  f2i : List ((FloatKind × NE × IntKind) × NE) := []
  calls : List ((FuncId × List SV) × SV) := []
  sums : List (FuncId × (Dom → List SV → Option SV)) := []
  exts : List (FuncId × (List Value → Option Value)) := []
  extS : List (FuncId × (Dom → List SV → Option SV)) := []
  dom : Dom := {}
  callsH : List CallE := []

def look {α β : Type} [DecidableEq α] : List (α × β) → α → Option β
  | [], _ => none
  | (k, v) :: l, a => if k = a then some v else look l a
theorem look_mem {α β : Type} [DecidableEq α] : ∀ {l : List (α × β)} {a : α} {v : β}, look l a = some v → (a, v) ∈ l
  | [], _, _, h => by cases h
  | (k, u) :: l, a, v, h => by
    simp only [look] at h
    split at h
    · rename_i e; cases h; subst e; simp
    · exact List.mem_cons_of_mem _ (look_mem h)

/-- No block is named. -/
def σ0 : Sg := ⟨fun b => b, fun b => b, fun _ => 0, fun _ => none⟩

structure Facts.Holds (P : Program) (ρ : Env) (Γ : Facts) : Prop where
  eqs : ∀ p ∈ Γ.eqs, p.1.den ρ = p.2.den ρ
  bits : ∀ p ∈ Γ.bits, p.1.den ρ = p.2
  fl : ∀ p ∈ Γ.fl, fmt p.1.1 p.1.2.1 (p.1.2.2.1.den ρ).toNat (p.1.2.2.2.den ρ).toNat = some (p.2.den ρ).toNat
  f2i : ∀ p ∈ Γ.f2i, ∀ w, (Conv.floatToInt p.1.1 (p.1.2.1.den ρ).toNat p.1.2.2).run P w = .ok (.int p.1.2.2 (p.2.den ρ)) w
  calls : ∀ p ∈ Γ.calls, ∀ w, Calls P p.1.1 (denL ρ σ0 p.1.2).toArray w fun e w' => e = .returned (p.2.den ρ σ0) ∧ Below w.heap.size w w'
  sums : ∀ p ∈ Γ.sums, ∀ D : Dom, D.Holds ρ → ∀ args v, p.2 D args = some v → ∀ w, Calls P p.1 (denL ρ σ0 args).toArray w fun e w' => e = .returned (v.den ρ σ0) ∧ Below w.heap.size w w'
  exts : ∀ p ∈ Γ.exts, ∀ (args : List Value) v, p.2 args = some v → ∀ w, (callFunc p.1 args.toArray).run P w = .ok (.value v) w
  extS : ∀ p ∈ Γ.extS, ∀ D : Dom, D.Holds ρ → ∀ args v, p.2 D args = some v → ∀ w, (callFunc p.1 (denL ρ σ0 args).toArray).run P w = .ok (.value (v.den ρ σ0)) w
  dom : Γ.dom.Holds ρ
  callsH : ∀ c ∈ Γ.callsH, c.Ok P ρ

variable {P : Program} {ρ : Env} {Γ : Facts}

def nf (Γ : Facts) (e : NE) : NE := match e with
  | .lit n => .lit n
  | e => match look Γ.eqs e with
    | some v => v
    | none => unw Γ.dom e
theorem nf_den (hΓ : Γ.Holds P ρ) (e : NE) : (nf Γ e).den ρ = e.den ρ := by
  unfold nf
  split
  · rfl
  · split
    · rename_i v h; exact (hΓ.eqs _ (look_mem h)).symm
    · exact unw_den hΓ.dom e

/-- Truths in one form: comparisons by ≤ and = alone, those of whole floats as those of numbers. -/
def nbI (o : COp) (a b : NE) : BE := match o with
  | .eql => mkIcmp .eql a b
  | .neq => mkNot (mkIcmp .eql a b)
  | .leq => mkIcmp .leq a b
  | .geq => mkIcmp .leq b a
  | .lss => mkNot (mkIcmp .leq b a)
  | .gtr => mkNot (mkIcmp .leq a b)
theorem nbI_den (o : COp) (a b : NE) : (nbI o a b).den ρ = o.int (a.den ρ) (b.den ρ) := by
  cases o <;> simp only [nbI, mkNot_den, mkIcmp_den, COp.int] <;> first | rfl | (apply Bool.eq_iff_iff.2; simp)
def mkBeq (a b : BE) : BE := match a, b with
  | .lit x, .lit y => .lit (x == y)
  | a, b => .beq a b
theorem mkBeq_den (a b : BE) : (mkBeq a b).den ρ = (a.den ρ == b.den ρ) := by unfold mkBeq; split <;> rfl
/-- Bits of floats that hold whole numbers, and no -0. -/
def nnB : NE → Bool
  | .lit n => decide (0 ≤ n)
  | .toF _ _ => true
  | .fneg _ _ => true
  | .fop _ _ _ _ => true
  | _ => false
theorem nnB_ok {e : NE} (h : nnB e = true) : 0 ≤ e.den ρ := by
  unfold nnB at h
  split at h
  · exact of_decide_eq_true h
  · exact Int.natCast_nonneg _
  · exact Int.natCast_nonneg _
  · exact Int.natCast_nonneg _
  · cases h
theorem fi_inj {x y : Int} (hx : InF x) (hy : InF y) (h : fi x = fi y) : x = y := by
  have h1 := order_rp (Rp_fi x) (Rp_fi y) hx hy
  have h2 := order_rp (Rp_fi x) (Rp_fi x) hx hx
  rw [← h, h2] at h1
  simp only [Option.some.injEq, compare, compareOfLessAndEq] at h1
  by_cases e : x = y
  · exact e
  · simp only [Int.lt_irrefl, if_false, if_true] at h1
    split at h1
    · cases h1
    · simp [e] at h1
def eqW (D : Dom) (a b : NE) : Option BE := if nnB a && (nnB b && (pz D a && pz D b)) then (match wh D a, wh D b with
  | some x, some y => some (mkIcmp .eql x.1 y.1)
  | _, _ => none) else none
theorem eqW_ok {D : Dom} (hD : D.Holds ρ) {a b : NE} {c : BE} (h : eqW D a b = some c) : c.den ρ = (a.den ρ == b.den ρ) := by
  unfold eqW at h
  split at h
  · rename_i hp
    simp only [Bool.and_eq_true] at hp
    obtain ⟨p1, p2, p3, p4⟩ := hp
    split at h
    · rename_i x y hx hy
      cases h
      rw [mkIcmp_den]
      have wx := wh_ok hD hx; have wy := wh_ok hD hy
      have e1 := pz_ok hD hx p3; have e2 := pz_ok hD hy p4
      have n1 := nnB_ok (ρ := ρ) p1; have n2 := nnB_ok (ρ := ρ) p2
      simp only [COp.int]
      apply Bool.eq_iff_iff.2
      simp only [beq_iff_eq]
      constructor
      · intro e; rw [e] at e1; omega
      · intro e
        refine fi_inj wx.inF wy.inF ?_
        rw [← e1, ← e2, e]
    · cases h
  · cases h
def nb (D : Dom) : BE → BE
  | .icmp o a b => (match o with
    | .eql => (match eqW D a b with | some c => c | none => nbI .eql a b)
    | .neq => (match eqW D a b with | some c => mkNot c | none => nbI .neq a b)
    | o => nbI o a b)
  | .fcmp .f64 o a b => match wh D a, wh D b with
    | some x, some y => nbI o x.1 y.1
    | _, _ => .fcmp .f64 o a b
  | .not a => mkNot (nb D a)
  | .and a b => mkAnd (nb D a) (nb D b)
  | .beq a b => mkBeq (nb D a) (nb D b)
  | b => b
theorem nb_den {D : Dom} (hD : D.Holds ρ) : ∀ b : BE, (nb D b).den ρ = b.den ρ
  | .icmp o a b => by
    simp only [nb]
    split
    · split
      · rename_i c hc; exact eqW_ok hD hc
      · exact nbI_den _ a b
    · split
      · rename_i c hc; rw [mkNot_den, eqW_ok hD hc]; rfl
      · exact nbI_den _ a b
    · exact nbI_den _ a b
  | .fcmp k o a b => by
    cases k
    · rfl
    · simp only [nb]
      split
      · rename_i x y hx hy
        rw [nbI_den]
        exact (flo_whole (wh_ok hD hx) (wh_ok hD hy) o).symm
      · rfl
  | .not a => by simp only [nb, mkNot_den, nb_den hD a, BE.den]
  | .and a b => by simp only [nb, mkAnd_den, nb_den hD a, nb_den hD b, BE.den]
  | .beq a b => by simp only [nb, mkBeq_den, nb_den hD a, nb_den hD b, BE.den]
  | .lit _ => rfl
  | .var _ => rfl

/-- What ranges tell. -/
def ric (D : Dom) : BE → Option Bool
  | .lit b => some b
  | .icmp .leq a b => if a = b then some true else match iv D a, iv D b with
    | some x, some y => if x.2 ≤ y.1 then some true else if y.2 < x.1 then some false else none
    | _, _ => none
  | .icmp .eql a b => if a = b then some true else match iv D a, iv D b with
    | some x, some y => if x.2 < y.1 then some false else if y.2 < x.1 then some false else if x.2 ≤ y.1 ∧ y.2 ≤ x.1 then some true else none
    | _, _ => none
  | _ => none
theorem ric_den {D : Dom} (hD : D.Holds ρ) : ∀ {b : BE} {v : Bool}, ric D b = some v → b.den ρ = v := by
  intro b v h
  unfold ric at h
  split at h
  · cases h; rfl
  · rename_i a b
    split at h
    · rename_i e; cases h; subst e; simp [BE.den, COp.int]
    split at h
    · rename_i x y hx hy
      have g1 := iv_ok hD hx; have g2 := iv_ok hD hy
      simp only [Rg] at g1 g2
      simp only [BE.den, COp.int]
      split at h
      · cases h; exact decide_eq_true (by omega)
      · split at h <;> cases h
        exact decide_eq_false (by omega)
    · cases h
  · rename_i a b
    split at h
    · rename_i e; cases h; subst e; simp [BE.den, COp.int]
    split at h
    · rename_i x y hx hy
      have g1 := iv_ok hD hx; have g2 := iv_ok hD hy
      simp only [Rg] at g1 g2
      simp only [BE.den, COp.int]
      split at h
      · cases h; simp; omega
      · split at h
        · cases h; simp; omega
        · split at h <;> cases h
          simp; omega
    · cases h
  · cases h
def res1 (Γ : Facts) (b : BE) : Option Bool := match look Γ.bits b with
  | some v => some v
  | none => ric Γ.dom b
theorem res1_den (hΓ : Γ.Holds P ρ) {b : BE} {v : Bool} (h : res1 Γ b = some v) : b.den ρ = v := by
  unfold res1 at h
  split at h
  · rename_i e; cases h; exact hΓ.bits _ (look_mem e)
  · exact ric_den hΓ.dom h
def and3 : Option Bool → Option Bool → Option Bool
  | some false, _ => some false
  | _, some false => some false
  | some true, some true => some true
  | _, _ => none
def res2 (Γ : Facts) : BE → Option Bool
  | .not a => (res2 Γ a).map (!·)
  | .and a b => and3 (res2 Γ a) (res2 Γ b)
  | .beq a b => match res2 Γ a, res2 Γ b with
    | some x, some y => some (x == y)
    | _, _ => res1 Γ (.beq a b)
  | b => res1 Γ b
theorem res2_den (hΓ : Γ.Holds P ρ) : ∀ {b : BE} {v : Bool}, res2 Γ b = some v → b.den ρ = v
  | .not a, v, h => by
    simp only [res2] at h
    obtain ⟨u, hu, rfl⟩ := Option.map_eq_some_iff.1 h
    simp [BE.den, res2_den hΓ hu]
  | .and a b, v, h => by
    simp only [res2] at h
    have ha := fun u => @res2_den hΓ a u
    have hb := fun u => @res2_den hΓ b u
    simp only [BE.den]
    unfold and3 at h
    split at h
    · rename_i e; cases h; rw [ha _ e]; rfl
    · rename_i e _; cases h; rw [hb _ e]; simp
    · rename_i e1 e2; cases h; rw [ha _ e1, hb _ e2]; rfl
    · cases h
  | .beq a b, v, h => by
    simp only [res2] at h
    split at h
    · rename_i x y hx hy
      cases h
      simp only [BE.den, res2_den hΓ hx, res2_den hΓ hy]
    · exact res1_den hΓ h
  | .lit _, v, h => res1_den hΓ h
  | .var _, v, h => res1_den hΓ h
  | .icmp _ _ _, v, h => res1_den hΓ h
  | .fcmp _ _ _ _, v, h => res1_den hΓ h
def res0 (Γ : Facts) (b : BE) : Option Bool := match look Γ.bits b with
  | some v => some v
  | none => match b with
    | .not c => (look Γ.bits c).map (!·)
    | _ => none
theorem res0_den (hΓ : Γ.Holds P ρ) {b : BE} {v : Bool} (h : res0 Γ b = some v) : b.den ρ = v := by
  unfold res0 at h
  split at h
  · rename_i e; cases h; exact hΓ.bits _ (look_mem e)
  · split at h
    · rename_i c _
      obtain ⟨u, hu, rfl⟩ := Option.map_eq_some_iff.1 h
      simp [BE.den, hΓ.bits _ (look_mem hu)]
    · cases h
def res (Γ : Facts) (b : BE) : Option Bool := match b with
  | .lit b => some b
  | b => match res0 Γ b with
    | some v => some v
    | none => res2 Γ (nb Γ.dom b)
theorem res_den (hΓ : Γ.Holds P ρ) {b : BE} {v : Bool} (h : res Γ b = some v) : b.den ρ = v := by
  unfold res at h
  split at h
  · cases h; rfl
  · split at h
    · rename_i e; cases h; exact res0_den hΓ e
    · rw [← nb_den hΓ.dom, res2_den hΓ h]

def nz (Γ : Facts) (b : NE) : Bool := res Γ (mkIcmp .eql b (.lit 0)) == some false
theorem nz_den (hΓ : Γ.Holds P ρ) {b : NE} (h : nz Γ b = true) : b.den ρ ≠ 0 := by
  unfold nz at h
  have h1 : res Γ (mkIcmp .eql b (.lit 0)) = some false := by simpa using h
  have := res_den hΓ h1
  rw [mkIcmp_den] at this
  simpa [COp.int, NE.den] using this

def intBin (Γ : Facts) (op : BinOp) (k : IntKind) (a b : NE) : Option SV :=
  match op with
  | .add => some (.int k (nf Γ (mkBin (.addW k) a b)))
  | .sub => some (.int k (nf Γ (mkBin (.subW k) a b)))
  | .mul => some (.int k (nf Γ (mkBin (.mulW k) a b)))
  | .quo => if nz Γ b then some (.int k (nf Γ (mkBin (.quoW k) a b))) else none
  | .rem => if nz Γ b then some (.int k (nf Γ (mkBin .remK a b))) else none
  | .and => some (.int k (nf Γ (mkBin (.andK k) a b)))
  | .or => some (.int k (nf Γ (mkBin (.orK k) a b)))
  | .xor => some (.int k (nf Γ (mkBin (.xorK k) a b)))
  | .andNot => some (.int k (nf Γ (mkBin (.andNotK k) a b)))
  | .shl | .shr => none
  | .eql => some (.bool (mkIcmp .eql a b))
  | .neq => some (.bool (mkIcmp .neq a b))
  | .lss => some (.bool (mkIcmp .lss a b))
  | .leq => some (.bool (mkIcmp .leq a b))
  | .gtr => some (.bool (mkIcmp .gtr a b))
  | .geq => some (.bool (mkIcmp .geq a b))

/-- A computation that yields this in every world. -/
def Runs (P : Program) {α : Type} (s : Sem α) (u : α) : Prop := ∀ w, s.run P w = .ok u w

theorem intBin_ok (hΓ : Γ.Holds P ρ) {op : BinOp} {k : IntKind} {a b : NE} {v : SV} (h : intBin Γ op k a b = some v) (σ : Sg) (t : TypeId) (x y : Operand) :
    Runs P (do eqGuard op t x y (.int k (a.den ρ)) (.int k (b.den ρ)); binOp op t (.int k (a.den ρ)) (.int k (b.den ρ))) (v.den ρ σ) ∧ ∀ n, v.inside n = true := by
  cases op <;> simp only [intBin] at h
  case quo | rem =>
    split at h
    · rename_i hz
      cases h
      have := nz_den hΓ hz
      refine ⟨fun w => ?_, fun _ => rfl⟩
      simp [eqGuard, binOp, Op.intDiv, this, SV.den, nf_den hΓ, mkBin_den, NOp.den]
    · cases h
  case shl | shr => cases h
  all_goals
    cases h
    refine ⟨fun w => ?_, fun _ => rfl⟩
    simp [eqGuard, binOp, Op.intArith, Op.intBits, Op.intCmp, SV.den, nf_den hΓ, mkBin_den, mkIcmp_den, NOp.den, COp.int]

def shBin (Γ : Facts) (op : BinOp) (k : IntKind) (a b : NE) : Option SV :=
  if res Γ (mkIcmp .lss b (.lit 0)) == some false then
    match op with
    | .shl => some (.int k (nf Γ (mkBin (.shlK k) a b)))
    | .shr => some (.int k (nf Γ (mkBin (.shrK k) a b)))
    | _ => none
  else none
theorem shBin_ok (hΓ : Γ.Holds P ρ) {op : BinOp} {k k' : IntKind} {a b : NE} {v : SV} (h : shBin Γ op k a b = some v) (σ : Sg) (t : TypeId) (x y : Operand) :
    Runs P (do eqGuard op t x y (.int k (a.den ρ)) (.int k' (b.den ρ)); binOp op t (.int k (a.den ρ)) (.int k' (b.den ρ))) (v.den ρ σ) ∧ ∀ n, v.inside n = true := by
  unfold shBin at h
  split at h
  · rename_i hz
    have hz' : ¬ b.den ρ < 0 := by
      have := res_den hΓ (show res Γ (mkIcmp .lss b (.lit 0)) = some false by simpa using hz)
      rw [mkIcmp_den] at this
      simp only [COp.int, NE.den] at this
      exact of_decide_eq_false this
    cases op <;> simp only at h <;> cases h <;> refine ⟨fun w => ?_, fun _ => rfl⟩ <;> simp [eqGuard, binOp, Op.shift, hz', SV.den, nf_den hΓ, mkBin_den, NOp.den]
  · cases h

def floW (D : Dom) (op : BinOp) (a b : NE) : Option NE := match wh D a, wh D b with
  | some x, some y => if (wOp op x y).isSome then some (exactF D (.fop op .f64 a b)) else none
  | _, _ => none
theorem floW_ok {D : Dom} (hD : D.Holds ρ) {op : BinOp} {a b r : NE} (h : floW D op a b = some r) : fmt op .f64 (a.den ρ).toNat (b.den ρ).toNat = some (r.den ρ).toNat := by
  unfold floW at h
  split at h
  · rename_i x y hx hy
    split at h <;> cases h
    rename_i hs
    obtain ⟨z, hz⟩ := Option.isSome_iff_exists.1 hs
    obtain ⟨⟨u, hu⟩, _⟩ := wOp_ok hz (wh_ok hD hx) (wh_ok hD hy)
    rw [exactF_den hD]
    simp only [NE.den, hu, Option.getD_some, Int.toNat_natCast]
  · cases h
def floLit (op : BinOp) (k : FloatKind) (a b : NE) : Option NE := match a.num?, b.num? with
  | some x, some y => (fmt op k x.toNat y.toNat).map fun r => .lit (r : Nat)
  | _, _ => none
def isMul : BinOp → Bool
  | .mul => true
  | _ => false
def floQ (op : BinOp) (k : FloatKind) (a b : NE) : Option NE := match k, a, b with
  | .f64, .toF .f64 (.lit x), .toF .f64 (.lit y) => litF op x y
  | _, _, _ => none
theorem floQ_ok {op : BinOp} {k : FloatKind} {a b r : NE} (h : floQ op k a b = some r) : fmt op k (a.den ρ).toNat (b.den ρ).toNat = some (r.den ρ).toNat := by
  unfold floQ at h
  split at h
  · simp only [NE.den, Int.toNat_natCast]; exact litF_ok h
  · cases h
def flo1 (Γ : Facts) (op : BinOp) (k : FloatKind) (a b : NE) : Option NE := match look Γ.fl (op, k, a, b) with
  | some r => some r
  | none => match k with
    | .f32 => floLit op .f32 a b
    | .f64 => match (if isMul op then zeroM a b else none) with
      | some r => some r
      | none => match floW Γ.dom op a b with
        | some r => some r
        | none => floLit op .f64 a b
theorem floLit_ok {op : BinOp} {k : FloatKind} {a b r : NE} (h : floLit op k a b = some r) : fmt op k (a.den ρ).toNat (b.den ρ).toNat = some (r.den ρ).toNat := by
  unfold floLit at h
  split at h
  · rename_i x y hx hy
    obtain ⟨u, hu, rfl⟩ := Option.map_eq_some_iff.1 h
    rw [NE.num_den hx, NE.num_den hy]
    simpa [NE.den] using hu
  · cases h
def flo (Γ : Facts) (op : BinOp) (k : FloatKind) (a b : NE) : Option NE := match floQ op k a b with
  | some r => some r
  | none => flo1 Γ op k a b
theorem flo1_ok (hΓ : Γ.Holds P ρ) {op : BinOp} {k : FloatKind} {a b r : NE} (h : flo1 Γ op k a b = some r) : fmt op k (a.den ρ).toNat (b.den ρ).toNat = some (r.den ρ).toNat := by
  unfold flo1 at h
  split at h
  · rename_i e; cases h; exact hΓ.fl _ (look_mem e)
  · cases k with
    | f32 => exact floLit_ok h
    | f64 =>
      simp only at h
      split at h
      · rename_i u hu
        cases h
        split at hu
        · rename_i hm
          have : op = .mul := by cases op <;> simp [isMul] at hm; rfl
          subst this
          exact zeroM_ok hu
        · cases hu
      · split at h
        · rename_i u hu; cases h; exact floW_ok hΓ.dom hu
        · exact floLit_ok h
theorem flo_ok (hΓ : Γ.Holds P ρ) {op : BinOp} {k : FloatKind} {a b r : NE} (h : flo Γ op k a b = some r) : fmt op k (a.den ρ).toNat (b.den ρ).toNat = some (r.den ρ).toNat := by
  unfold flo at h
  split at h
  · rename_i u hu; cases h; exact floQ_ok hu
  · exact flo1_ok hΓ h
theorem run_flA {op : BinOp} {k : FloatKind} {x y r : Nat} (h : fmt op k x y = some r) : Runs P (Op.floatArith op k x y) (.float k r) := by
  intro w
  cases op <;> simp only [fmt] at h <;> first | (cases h; done) | simp [Op.floatArith, h]
theorem run_arith {op : BinOp} {k : FloatKind} {x y r : Nat} (h : fmt op k x y = some r) : Runs P (Op.Complex.arith op k x y) r := by
  intro w
  simp [Op.Complex.arith, run_flA (P := P) h w]
theorem run_cmp {c : COp} {op : BinOp} (hc : COp.ofBin op = some c) (k : FloatKind) (x y : Nat) : Runs P (Op.floatCmp op k x y) (.bool (c.flo k x y)) := by
  intro w
  cases op <;> simp only [COp.ofBin] at hc <;> cases hc <;> simp [Op.floatCmp, COp.flo]

def f2iL (Γ : Facts) (l : FloatKind) (b : NE) (k : IntKind) : Option NE := match look Γ.f2i (l, b, k) with
  | some r => some r
  | none => match l, k, wh Γ.dom b with
    | .f64, .i64, some x => some x.1
    | _, _, _ => none
theorem f2i_whole {b : NE} {x : NE × Nat} (h : Whole ρ b x) (w : World) : (Conv.floatToInt .f64 (b.den ρ).toNat .i64).run P w = .ok (.int .i64 (x.1.den ρ)) w := by
  have := int_rp h.rp h.inF
  unfold floatToIntVal at this
  split at this
  · rename_i n hn
    split at this <;> cases this
    rename_i hr
    simp only [Conv.floatToInt, hn]
    rw [if_pos hr]; rfl
  · cases this
theorem f2iL_ok (hΓ : Γ.Holds P ρ) {l : FloatKind} {b : NE} {k : IntKind} {r : NE} (h : f2iL Γ l b k = some r) (w : World) : (Conv.floatToInt l (b.den ρ).toNat k).run P w = .ok (.int k (r.den ρ)) w := by
  unfold f2iL at h
  split at h
  · rename_i e; cases h; exact hΓ.f2i _ (look_mem e) w
  · split at h
    · rename_i x hx _; cases h; exact f2i_whole (wh_ok hΓ.dom hx) w
    · cases h
def flBin (Γ : Facts) (op : BinOp) (k : FloatKind) (a b : NE) : Option SV :=
  match op with
  | .add | .sub | .mul | .quo => (flo Γ op k a b).map fun r => .float k (nf Γ r)
  | op => (COp.ofBin op).map fun c => .bool (mkFcmp k c a b)
theorem flBin_ok (hΓ : Γ.Holds P ρ) {op : BinOp} {k : FloatKind} {a b : NE} {v : SV} (h : flBin Γ op k a b = some v) (σ : Sg) (t : TypeId) (x y : Operand) :
    Runs P (do eqGuard op t x y (.float k (a.den ρ).toNat) (.float k (b.den ρ).toNat); binOp op t (.float k (a.den ρ).toNat) (.float k (b.den ρ).toNat)) (v.den ρ σ) ∧ ∀ n, v.inside n = true := by
  have ar : ∀ (op : BinOp), (op = .add ∨ op = .sub ∨ op = .mul ∨ op = .quo) → (flo Γ op k a b).map (fun r => SV.float k (nf Γ r)) = some v →
      Runs P (do eqGuard op t x y (.float k (a.den ρ).toNat) (.float k (b.den ρ).toNat); binOp op t (.float k (a.den ρ).toNat) (.float k (b.den ρ).toNat)) (v.den ρ σ) ∧ ∀ n, v.inside n = true := by
    intro op ho h
    obtain ⟨r, hr, rfl⟩ := Option.map_eq_some_iff.1 h
    refine ⟨fun w => ?_, fun _ => rfl⟩
    have := run_flA (P := P) (flo_ok hΓ hr) w
    rcases ho with rfl | rfl | rfl | rfl <;> simp [eqGuard, binOp, this, SV.den, nf_den hΓ]
  have cm : ∀ (op : BinOp) (c : COp), COp.ofBin op = some c → v = .bool (mkFcmp k c a b) →
      Runs P (do eqGuard op t x y (.float k (a.den ρ).toNat) (.float k (b.den ρ).toNat); binOp op t (.float k (a.den ρ).toNat) (.float k (b.den ρ).toNat)) (v.den ρ σ) ∧ ∀ n, v.inside n = true := by
    intro op c hc hv
    subst hv
    refine ⟨fun w => ?_, fun _ => rfl⟩
    have := run_cmp (P := P) hc k (a.den ρ).toNat (b.den ρ).toNat w
    cases op <;> simp only [COp.ofBin] at hc <;> cases hc <;> simp [eqGuard, binOp, this, SV.den, BE.den, mkFcmp_den]
  cases op
  case add => exact ar _ (by simp) h
  case sub => exact ar _ (by simp) h
  case mul => exact ar _ (by simp) h
  case quo => exact ar _ (by simp) h
  all_goals
    simp only [flBin] at h
    obtain ⟨c, hc, hv⟩ := Option.map_eq_some_iff.1 h
    exact cm _ c hc hv.symm

def coBin (Γ : Facts) (op : BinOp) (k : FloatKind) (a b c d : NE) : Option SV :=
  match op with
  | .add | .sub => match flo Γ op k a c, flo Γ op k b d with
    | some r, some s => some (.complex k (nf Γ r) (nf Γ s))
    | _, _ => none
  | .mul => if k = .f64 then
      match flo Γ .mul .f64 a c, flo Γ .mul .f64 b d, flo Γ .mul .f64 a d, flo Γ .mul .f64 b c with
      | some ac, some bd, some ad, some bc => match flo Γ .sub .f64 (nf Γ ac) (nf Γ bd), flo Γ .add .f64 (nf Γ ad) (nf Γ bc) with
        | some r, some s => some (.complex .f64 (nf Γ r) (nf Γ s))
        | _, _ => none
      | _, _, _, _ => none
    else none
  | .eql => some (.bool (mkAnd (mkFcmp k .eql a c) (mkFcmp k .eql b d)))
  | .neq => some (.bool (mkNot (mkAnd (mkFcmp k .eql a c) (mkFcmp k .eql b d))))
  | _ => none
theorem coBin_ok (hΓ : Γ.Holds P ρ) {op : BinOp} {k : FloatKind} {a b c d : NE} {v : SV} (h : coBin Γ op k a b c d = some v) (σ : Sg) (t : TypeId) (x y : Operand) :
    Runs P (do eqGuard op t x y (.complex k (a.den ρ).toNat (b.den ρ).toNat) (.complex k (c.den ρ).toNat (d.den ρ).toNat); binOp op t (.complex k (a.den ρ).toNat (b.den ρ).toNat) (.complex k (c.den ρ).toNat (d.den ρ).toNat)) (v.den ρ σ) ∧ ∀ n, v.inside n = true := by
  have e1 := fun x y => run_cmp (P := P) (op := .eql) rfl k x y
  cases op <;> simp only [coBin] at h
  case add | sub =>
    split at h
    · rename_i r s hr hs
      cases h
      refine ⟨fun w => ?_, fun _ => rfl⟩
      have h1 := run_arith (P := P) (flo_ok hΓ hr) w
      have h2 := run_arith (P := P) (flo_ok hΓ hs) w
      simp [eqGuard, binOp, Op.complexOp, h1, h2, SV.den, nf_den hΓ]
    · cases h
  case mul =>
    split at h
    · rename_i hk
      subst hk
      split at h
      · rename_i ac bd ad bc h1 h2 h3 h4
        split at h
        · rename_i r s h5 h6
          cases h
          refine ⟨fun w => ?_, fun _ => rfl⟩
          have g1 := run_arith (P := P) (flo_ok hΓ h1) w
          have g2 := run_arith (P := P) (flo_ok hΓ h2) w
          have g3 := run_arith (P := P) (flo_ok hΓ h3) w
          have g4 := run_arith (P := P) (flo_ok hΓ h4) w
          have g5 := run_arith (P := P) (flo_ok hΓ h5) w
          have g6 := run_arith (P := P) (flo_ok hΓ h6) w
          rw [nf_den hΓ, nf_den hΓ] at g5 g6
          simp [eqGuard, binOp, Op.complexOp, Op.Complex.conv, Op.Complex.product, Op.Complex.sub, Op.Complex.add, Op.Complex.mul, g1, g2, g3, g4, g5, g6, SV.den, nf_den hΓ]
        · cases h
      · cases h
    · cases h
  case eql | neq =>
    cases h
    refine ⟨fun w => ?_, fun _ => rfl⟩
    have g1 := e1 (a.den ρ).toNat (c.den ρ).toNat w
    have g2 := e1 (b.den ρ).toNat (d.den ρ).toNat w
    by_cases hb : COp.flo k .eql (a.den ρ).toNat (c.den ρ).toNat = true
    · simp [eqGuard, binOp, Op.complexOp, Op.Complex.cmp, g1, g2, asBool, hb, SV.den, mkAnd_den, mkFcmp_den, mkNot_den]
    · simp [eqGuard, binOp, Op.complexOp, Op.Complex.cmp, g1, g2, asBool, hb, SV.den, mkAnd_den, mkFcmp_den, mkNot_den]
  all_goals cases h
end Go.Proofs.Ytgdhpgjfebinhaa.Ev
