/- The symbolic machine's ranges of numbers, and floats that hold whole numbers. -/
import Derived.Test.YtgdhpgjfebinhaaFva
import Derived.Test.YtgdhpgjfebinhaaFlx
import Derived.IntWalk
namespace Go.Proofs.Ytgdhpgjfebinhaa.Ev
set_option linter.unusedSimpArgs false
open Go Go.RowKit
set_option linter.unusedVariables false

/-- What is known of the variables: ranges of numbers, and floats that hold whole numbers of at most such a size. -/
structure Dom where
  ivs : List (Nat × Int × Int) := []
  whs : List (Nat × NE × Nat) := []
  aivs : List (Nat × Int × Int) := []
  awhs : List (Nat × NE × Nat) := []
structure Dom.Holds (ρ : Env) (D : Dom) : Prop where
  ivs : ∀ p ∈ D.ivs, p.2.1 ≤ ρ.n p.1 ∧ ρ.n p.1 ≤ p.2.2
  whs : ∀ p ∈ D.whs, Rp (ρ.n p.1).toNat (p.2.1.den ρ) ∧ (p.2.1.den ρ).natAbs ≤ p.2.2 ∧ p.2.2 ≤ 9007199254740992
  aivs : ∀ p ∈ D.aivs, ∀ x, p.2.1 ≤ ρ.a p.1 x ∧ ρ.a p.1 x ≤ p.2.2
  awhs : ∀ p ∈ D.awhs, (∀ x, Rp (ρ.a p.1 x).toNat (p.2.1.aden ρ x) ∧ (p.2.1.aden ρ x).natAbs ≤ p.2.2) ∧ p.2.2 ≤ 9007199254740992

def findN {α : Type} : List (Nat × α) → Nat → Option α
  | [], _ => none
  | (k, v) :: l, i => if Nat.beq k i then some v else findN l i
theorem findN_mem {α : Type} : ∀ {l : List (Nat × α)} {i : Nat} {v : α}, findN l i = some v → (i, v) ∈ l
  | [], _, _, h => by cases h
  | (k, u) :: l, i, v, h => by
    simp only [findN] at h
    split at h
    · rename_i e; cases h; have := Nat.eq_of_beq_eq_true e; subst this; simp
    · exact List.mem_cons_of_mem _ (findN_mem h)

def kMin : IntKind → Int
  | .i8 => -128 | .i16 => -32768 | .i32 => -2147483648 | .i64 => -9223372036854775808 | _ => 0
def kMax : IntKind → Int
  | .i8 => 127 | .i16 => 32767 | .i32 => 2147483647 | .i64 => 9223372036854775807
  | .u8 => 255 | .u16 => 65535 | .u32 => 4294967295 | .u64 => 18446744073709551615
theorem wrap_id {k : IntKind} {n : Int} (h : kMin k ≤ n ∧ n ≤ kMax k) : k.wrap n = n := by
  cases k <;> simp only [kMin, kMax] at h
  · exact IntWalk.i8_in n h
  · exact IntWalk.i16_in n h
  · exact IntWalk.i32_in n h
  · exact IntWalk.i64_in n h
  · exact IntWalk.u8_in n h
  · exact IntWalk.u16_in n h
  · exact IntWalk.u32_in n h
  · exact IntWalk.u64_in n h
theorem wrap_range (k : IntKind) (n : Int) : kMin k ≤ k.wrap n ∧ k.wrap n ≤ kMax k := by
  cases k <;> simp only [kMin, kMax, IntKind.wrap, IntKind.bits, IntKind.signed, Bool.true_and, Bool.false_and] <;> simp <;> (try split) <;> omega

def fits (k : IntKind) (r : Int × Int) : Bool := decide (kMin k ≤ r.1) && decide (r.2 ≤ kMax k)
theorem fits_ok {k : IntKind} {r : Int × Int} {n : Int} (h : fits k r = true) (h1 : r.1 ≤ n) (h2 : n ≤ r.2) : k.wrap n = n := by
  simp only [fits, Bool.and_eq_true, decide_eq_true_eq] at h
  exact wrap_id ⟨by omega, by omega⟩
def cutK (k : IntKind) (r : Int × Int) : Int × Int := if fits k r then r else (kMin k, kMax k)
theorem cutK_ok {k : IntKind} {r : Int × Int} {n : Int} (h1 : r.1 ≤ n) (h2 : n ≤ r.2) : (cutK k r).1 ≤ k.wrap n ∧ k.wrap n ≤ (cutK k r).2 := by
  unfold cutK; split
  · rename_i h; rw [fits_ok h h1 h2]; exact ⟨h1, h2⟩
  · exact wrap_range k n

abbrev Rg (r : Int × Int) (n : Int) : Prop := r.1 ≤ n ∧ n ≤ r.2
def rAdd (a b : Int × Int) : Int × Int := (a.1 + b.1, a.2 + b.2)
def rSub (a b : Int × Int) : Int × Int := (a.1 - b.2, a.2 - b.1)
def rMul (a b : Int × Int) : Int × Int :=
  (min (min (a.1 * b.1) (a.1 * b.2)) (min (a.2 * b.1) (a.2 * b.2)), max (max (a.1 * b.1) (a.1 * b.2)) (max (a.2 * b.1) (a.2 * b.2)))
theorem rAdd_ok {a b : Int × Int} {x y : Int} (h : Rg a x) (g : Rg b y) : Rg (rAdd a b) (x + y) := by
  simp only [Rg, rAdd] at *; omega
theorem rSub_ok {a b : Int × Int} {x y : Int} (h : Rg a x) (g : Rg b y) : Rg (rSub a b) (x - y) := by
  simp only [Rg, rSub] at *; omega
theorem mul_between {l h x y : Int} (h1 : l ≤ x) (h2 : x ≤ h) : min (l * y) (h * y) ≤ x * y ∧ x * y ≤ max (l * y) (h * y) := by
  by_cases hy : 0 ≤ y
  · have a1 := Int.mul_le_mul_of_nonneg_right h1 hy
    have a2 := Int.mul_le_mul_of_nonneg_right h2 hy
    omega
  · have a1 := Int.mul_le_mul_of_nonpos_right h1 (show y ≤ 0 by omega)
    have a2 := Int.mul_le_mul_of_nonpos_right h2 (show y ≤ 0 by omega)
    omega
theorem rMul_ok {a b : Int × Int} {x y : Int} (h : Rg a x) (g : Rg b y) : Rg (rMul a b) (x * y) := by
  simp only [Rg, rMul] at *
  have k1 := mul_between (y := y) h.1 h.2
  have k2 := mul_between (y := a.1) g.1 g.2
  have k3 := mul_between (y := a.2) g.1 g.2
  rw [Int.mul_comm b.1, Int.mul_comm b.2, Int.mul_comm y] at k2 k3
  generalize a.1 * b.1 = p at *; generalize a.1 * b.2 = q at *; generalize a.2 * b.1 = r at *; generalize a.2 * b.2 = s at *
  generalize a.1 * y = u at *; generalize a.2 * y = v at *; generalize x * y = z at *
  omega
def rQuo (a b : Int × Int) : Int × Int := (if 0 ≤ a.1 then 0 else a.1.tdiv b.1, if a.2 ≤ 0 then 0 else a.2.tdiv b.1)
theorem tdiv_pos {x y : Int} (hx : 0 ≤ x) (hy : 1 ≤ y) : 0 ≤ x.tdiv y ∧ x.tdiv y ≤ x := by
  rw [Int.tdiv_eq_ediv_of_nonneg hx]
  exact ⟨Int.ediv_nonneg hx (by omega), Int.ediv_le_self y hx⟩
theorem ediv_anti {x y z : Int} (hx : 0 ≤ x) (hz : 1 ≤ z) (hy : z ≤ y) : x / y ≤ x / z := by
  apply (Int.le_ediv_iff_mul_le (by omega)).2
  have h1 : 0 ≤ x / y := Int.ediv_nonneg hx (by omega)
  have h2 : x / y * y ≤ x := Int.ediv_mul_le x (by omega)
  have h3 : x / y * z ≤ x / y * y := Int.mul_le_mul_of_nonneg_left hy h1
  omega
theorem rQuo_ok {a b : Int × Int} {x y : Int} (hb : 1 ≤ b.1) (h : Rg a x) (g : Rg b y) : Rg (rQuo a b) (x.tdiv y) := by
  simp only [Rg, rQuo] at *
  have hy : 1 ≤ y := by omega
  have pos : ∀ {u v : Int}, 0 ≤ u → u ≤ v → 0 ≤ u.tdiv y ∧ u.tdiv y ≤ v.tdiv b.1 := by
    intro u v hu huv
    refine ⟨(tdiv_pos hu hy).1, ?_⟩
    rw [Int.tdiv_eq_ediv_of_nonneg hu, Int.tdiv_eq_ediv_of_nonneg (by omega)]
    exact Int.le_trans (Int.ediv_le_ediv (by omega) huv) (ediv_anti (by omega) hb (by omega))
  by_cases hx : 0 ≤ x
  · have h1 := pos hx h.2
    constructor
    · split
      · exact h1.1
      · have : (a.1).tdiv b.1 ≤ 0 := by
          have := (tdiv_pos (x := -a.1) (y := b.1) (by omega) hb).1
          rw [Int.neg_tdiv] at this; omega
        omega
    · split
      · have : x = 0 := by omega
        subst this; simp
      · exact h1.2
  · have h1 := pos (u := -x) (v := -a.1) (by omega) (by omega)
    rw [Int.neg_tdiv, Int.neg_tdiv] at h1
    constructor
    · rw [if_neg (by omega)]; omega
    · split
      · omega
      · have := (tdiv_pos (x := a.2) (y := b.1) (by omega) hb).1
        omega
def rRem (a b : Int × Int) : Int × Int := (if 0 ≤ a.1 then 0 else max a.1 (1 - b.2), if a.2 ≤ 0 then 0 else min a.2 (b.2 - 1))
theorem rRem_ok {a b : Int × Int} {x y : Int} (hb : 1 ≤ b.1) (h : Rg a x) (g : Rg b y) : Rg (rRem a b) (x.tmod y) := by
  simp only [Rg, rRem] at *
  have hy : 1 ≤ y := by omega
  have pos : ∀ {u : Int}, 0 ≤ u → 0 ≤ u.tmod y ∧ u.tmod y ≤ u ∧ u.tmod y < y := by
    intro u hu
    rw [Int.tmod_eq_emod_of_nonneg hu]
    refine ⟨Int.emod_nonneg _ (by omega), ?_, Int.emod_lt_of_pos _ (by omega)⟩
    by_cases hlt : u < y
    · rw [Int.emod_eq_of_lt hu hlt]; exact Int.le_refl _
    · have := Int.emod_lt_of_pos u (show 0 < y by omega); omega
  by_cases hx : 0 ≤ x
  · have := pos hx
    constructor <;> split <;> omega
  · have := pos (u := -x) (by omega)
    rw [Int.neg_tmod] at this
    constructor <;> split <;> omega
def rMax (a b : Int × Int) : Int × Int := (max a.1 b.1, max a.2 b.2)
def rMin (a b : Int × Int) : Int × Int := (min a.1 b.1, min a.2 b.2)

def ivOp (o : NOp) (a b : Int × Int) : Option (Int × Int) := match o with
  | .addI => some (rAdd a b) | .subI => some (rSub a b) | .mulI => some (rMul a b)
  | .addW k => some (cutK k (rAdd a b)) | .subW k => some (cutK k (rSub a b)) | .mulW k => some (cutK k (rMul a b))
  | .quoW k => if 1 ≤ b.1 then some (cutK k (rQuo a b)) else some (kMin k, kMax k)
  | .quoI => if 1 ≤ b.1 then some (rQuo a b) else none
  | .remK => if 1 ≤ b.1 then some (rRem a b) else none
  | .maxI => some (rMax a b) | .minI => some (rMin a b)
  | .andK .i64 => if 0 ≤ b.1 then (if b.2 ≤ 9223372036854775807 then some (0, b.2) else none) else none
  | _ => none
theorem and_rng {x y : Int} (h0 : 0 ≤ y) (h1 : y ≤ 9223372036854775807) : 0 ≤ NOp.den (.andK .i64) x y ∧ NOp.den (.andK .i64) x y ≤ y := by
  show 0 ≤ IntKind.i64.wrap ((BitVec.ofInt 64 x &&& BitVec.ofInt 64 y).toNat : Int) ∧ IntKind.i64.wrap ((BitVec.ofInt 64 x &&& BitVec.ofInt 64 y).toNat : Int) ≤ y
  have e : (BitVec.ofInt 64 y).toNat = y.toNat := by
    rw [BitVec.toNat_ofInt]; omega
  have hle : (BitVec.ofInt 64 x &&& BitVec.ofInt 64 y).toNat ≤ y.toNat := by
    rw [BitVec.toNat_and, e]; exact Nat.and_le_right
  rw [IntKind.wrap_i64]; omega
theorem ivOp_ok {o : NOp} {a b r : Int × Int} {x y : Int} (h : ivOp o a b = some r) (ha : Rg a x) (hb : Rg b y) : Rg r (o.den x y) := by
  cases o <;> simp only [ivOp] at h <;> try (cases h; done)
  case addI => cases h; exact rAdd_ok ha hb
  case subI => cases h; exact rSub_ok ha hb
  case mulI => cases h; exact rMul_ok ha hb
  case addW k => cases h; have := rAdd_ok ha hb; exact cutK_ok this.1 this.2
  case subW k => cases h; have := rSub_ok ha hb; exact cutK_ok this.1 this.2
  case mulW k => cases h; have := rMul_ok ha hb; exact cutK_ok this.1 this.2
  case quoW k =>
    split at h <;> cases h
    · have := rQuo_ok (by assumption) ha hb; exact cutK_ok this.1 this.2
    · exact wrap_range k _
  case quoI =>
    split at h <;> cases h
    exact rQuo_ok (by assumption) ha hb
  case remK =>
    split at h <;> cases h
    exact rRem_ok (by assumption) ha hb
  case maxI =>
    cases h
    simp only [Rg, rMax, NOp.den] at *
    split <;> omega
  case minI =>
    cases h
    simp only [Rg, rMin, NOp.den] at *
    split <;> omega
  case andK k =>
    cases k <;> simp only at h <;> try (cases h; done)
    split at h
    · split at h
      · cases h
        have := and_rng (x := x) (y := y) (by have := hb.1; omega) (by have := hb.2; omega)
        exact ⟨this.1, by have := hb.2; show _ ≤ b.2; omega⟩
      · cases h
    · cases h

/-- The range of a number. -/
def hull2 (a b : Option (Int × Int)) : Option (Int × Int) := match a, b with
  | some x, some y => some (min x.1 y.1, max x.2 y.2)
  | _, _ => none
theorem hull2_l {a b : Option (Int × Int)} {r : Int × Int} (h : hull2 a b = some r) {P : Int → Prop} : ∃ x y, a = some x ∧ b = some y ∧ r.1 ≤ x.1 ∧ x.2 ≤ r.2 ∧ r.1 ≤ y.1 ∧ y.2 ≤ r.2 := by
  unfold hull2 at h
  split at h
  · rename_i x y
    cases h
    exact ⟨x, y, rfl, rfl, by simp only; omega, by simp only; omega, by simp only; omega, by simp only; omega⟩
  · cases h
mutual
def iv (D : Dom) : NE → Option (Int × Int)
  | .lit n => some (n, n)
  | .var i => findN D.ivs i
  | .bin o a b => match iv D a, iv D b with
    | some x, some y => ivOp o x y
    | _, _ => none
  | .wrap k a => match iv D a with
    | some x => some (cutK k x)
    | none => some (kMin k, kMax k)
  | .sel a _ => aiv D a
  | .toF _ _ => none
  | .fneg _ _ => none
  | .fop _ _ _ _ => none
  | .avar _ => none
  | .aupd _ _ _ => none
  | .acst _ => none
  | .acat _ _ _ => none
  | .aoff _ _ => none
/-- The range of all numbers of a row. -/
def aiv (D : Dom) : NE → Option (Int × Int)
  | .avar i => findN D.aivs i
  | .aupd a _ v => hull2 (aiv D a) (iv D v)
  | .acst v => iv D v
  | .acat a _ b => hull2 (aiv D a) (aiv D b)
  | .aoff a _ => aiv D a
  | .lit _ => none
  | .var _ => none
  | .bin _ _ _ => none
  | .wrap _ _ => none
  | .toF _ _ => none
  | .fneg _ _ => none
  | .fop _ _ _ _ => none
  | .sel _ _ => none
end
mutual
theorem iv_ok {ρ : Env} {D : Dom} (hD : D.Holds ρ) : ∀ {e : NE} {r : Int × Int}, iv D e = some r → Rg r (e.den ρ)
  | .lit n, r, h => by simp only [iv] at h; cases h; exact ⟨Int.le_refl _, Int.le_refl _⟩
  | .var i, r, h => by simp only [iv] at h; exact hD.ivs _ (findN_mem h)
  | .bin o a b, r, h => by
    simp only [iv] at h
    split at h
    · rename_i x y hx hy
      exact ivOp_ok h (iv_ok hD hx) (iv_ok hD hy)
    · cases h
  | .wrap k a, r, h => by
    simp only [iv] at h
    split at h
    · rename_i x hx
      cases h
      have := iv_ok hD hx
      exact cutK_ok this.1 this.2
    · cases h; exact wrap_range k _
  | .sel a j, r, h => by simp only [iv] at h; simp only [NE.den]; exact aiv_ok hD h _
  | .toF _ _, r, h => by simp [iv] at h
  | .fneg _ _, r, h => by simp [iv] at h
  | .fop _ _ _ _, r, h => by simp [iv] at h
  | .avar _, r, h => by simp [iv] at h
  | .aupd _ _ _, r, h => by simp [iv] at h
  | .acst _, r, h => by simp [iv] at h
  | .acat _ _ _, r, h => by simp [iv] at h
  | .aoff _ _, r, h => by simp [iv] at h
theorem aiv_ok {ρ : Env} {D : Dom} (hD : D.Holds ρ) : ∀ {e : NE} {r : Int × Int}, aiv D e = some r → ∀ x, Rg r (e.aden ρ x)
  | .avar i, r, h, x => by simp only [aiv] at h; simp only [NE.aden]; exact hD.aivs _ (findN_mem h) x
  | .aupd a j v, r, h, x => by
    simp only [aiv] at h
    obtain ⟨p, q, hp, hq, h1, h2, h3, h4⟩ := hull2_l (P := fun _ => True) h
    have := aiv_ok hD hp x
    have := iv_ok hD hq
    simp only [NE.aden]
    split <;> (unfold Rg at *; omega)
  | .acst v, r, h, x => by simp only [aiv] at h; simp only [NE.aden]; exact iv_ok hD h
  | .acat a n b, r, h, x => by
    simp only [aiv] at h
    obtain ⟨p, q, hp, hq, h1, h2, h3, h4⟩ := hull2_l (P := fun _ => True) h
    have := aiv_ok hD hp x
    have := aiv_ok hD hq (x - n.den ρ)
    simp only [NE.aden]
    split <;> (unfold Rg at *; omega)
  | .aoff a d, r, h, x => by simp only [aiv] at h; simp only [NE.aden]; exact aiv_ok hD h _
  | .lit _, r, h, _ => by simp [aiv] at h
  | .var _, r, h, _ => by simp [aiv] at h
  | .bin _ _ _, r, h, _ => by simp [aiv] at h
  | .wrap _ _, r, h, _ => by simp [aiv] at h
  | .toF _ _, r, h, _ => by simp [aiv] at h
  | .fneg _ _, r, h, _ => by simp [aiv] at h
  | .fop _ _ _ _, r, h, _ => by simp [aiv] at h
  | .sel _ _, r, h, _ => by simp [aiv] at h
end

def mkAddI (a b : NE) : NE := match a, b with
  | .lit x, .lit y => .lit (x + y)
  | .lit 0, b => b
  | a, .lit 0 => a
  | a, b => .bin .addI a b
def mkSubI (a b : NE) : NE := match a, b with
  | .lit x, .lit y => .lit (x - y)
  | a, .lit 0 => a
  | a, b => .bin .subI a b
def mkMulI (a b : NE) : NE := match a, b with
  | .lit x, .lit y => .lit (x * y)
  | .lit 0, _ => .lit 0
  | _, .lit 0 => .lit 0
  | .lit 1, b => b
  | a, .lit 1 => a
  | a, b => .bin .mulI a b
theorem mkAddI_den (ρ : Env) (a b : NE) : (mkAddI a b).den ρ = a.den ρ + b.den ρ := by
  unfold mkAddI; split <;> simp [NE.den, NOp.den]
theorem mkSubI_den (ρ : Env) (a b : NE) : (mkSubI a b).den ρ = a.den ρ - b.den ρ := by
  unfold mkSubI; split <;> simp [NE.den, NOp.den]
theorem mkMulI_den (ρ : Env) (a b : NE) : (mkMulI a b).den ρ = a.den ρ * b.den ρ := by
  unfold mkMulI; split <;> simp [NE.den, NOp.den]
def mkQuoI (a b : NE) : NE := match a, b with
  | .lit x, .lit y => .lit (x.tdiv y)
  | a, .lit 1 => a
  | a, b => .bin .quoI a b
theorem mkQuoI_den (ρ : Env) (a b : NE) : (mkQuoI a b).den ρ = (a.den ρ).tdiv (b.den ρ) := by
  unfold mkQuoI; split <;> simp [NE.den, NOp.den]

/-- The whole number that a float's bits hold. -/
def litW (n : Int) : Option Int := match floatToIntVal .f64 n.toNat .i64 with
  | some m => if (n.toNat = fi m ∨ (m = 0 ∧ n.toNat = nz)) ∧ m.natAbs ≤ 9007199254740992 then some m else none
  | none => none
theorem litW_ok {n m : Int} (h : litW n = some m) : Rp n.toNat m ∧ m.natAbs ≤ 9007199254740992 := by
  unfold litW at h
  split at h
  · split at h
    · rename_i hc; cases h; exact ⟨hc.1, hc.2⟩
    · cases h
  · cases h
def sz (r : Int × Int) : Nat := max r.1.natAbs r.2.natAbs
theorem sz_ok {r : Int × Int} {n : Int} (h : Rg r n) : n.natAbs ≤ sz r := by
  simp only [Rg, sz] at *; omega
def mxF : Nat := 9007199254740992
def wOp (o : BinOp) (x y : NE × Nat) : Option (NE × Nat) := match o with
  | .add => if x.2 + y.2 ≤ mxF then some (mkAddI x.1 y.1, x.2 + y.2) else none
  | .sub => if x.2 + y.2 ≤ mxF then some (mkSubI x.1 y.1, x.2 + y.2) else none
  | .mul => if x.2 * y.2 ≤ mxF then some (mkMulI x.1 y.1, x.2 * y.2) else none
  | _ => none
/-- A better bound of a whole number, if its range tells one. -/
def tight (D : Dom) (x : NE × Nat) : NE × Nat := match iv D x.1 with
  | some r => (x.1, min x.2 (sz r))
  | none => x
mutual
/-- The whole number that a float holds, and a bound of its size. -/
def wh (D : Dom) : NE → Option (NE × Nat)
  | .lit n => (litW n).map fun m => (.lit m, m.natAbs)
  | .var i => (findN D.whs i).map (tight D)
  | .toF k e => (match k with
    | .f64 => (match iv D e with
      | some r => if sz r ≤ mxF then some (e, sz r) else none
      | none => none)
    | _ => none)
  | .fneg k a => (match k with
    | .f64 => (wh D a).map fun x => (mkSubI (.lit 0) x.1, x.2)
    | _ => none)
  | .fop o k a b => (match k with
    | .f64 => (match wh D a, wh D b with
      | some x, some y => wOp o x y
      | _, _ => none)
    | _ => none)
  | .sel a j => (awh D a).map fun x => (mkSel x.1 j, x.2)
  | .bin _ _ _ => none
  | .wrap _ _ => none
  | .avar _ => none
  | .aupd _ _ _ => none
  | .acst _ => none
  | .acat _ _ _ => none
  | .aoff _ _ => none
/-- The whole numbers that a row of floats holds, and a bound of their sizes. -/
def awh (D : Dom) : NE → Option (NE × Nat)
  | .avar i => findN D.awhs i
  | .aupd a j v => (match awh D a, wh D v with
    | some x, some y => some (.aupd x.1 j y.1, max x.2 y.2)
    | _, _ => none)
  | .acst v => (wh D v).map fun x => (.acst x.1, x.2)
  | .acat a n b => (match awh D a, awh D b with
    | some x, some y => some (.acat x.1 n y.1, max x.2 y.2)
    | _, _ => none)
  | .aoff a d => (awh D a).map fun x => (.aoff x.1 d, x.2)
  | .lit _ => none
  | .var _ => none
  | .bin _ _ _ => none
  | .wrap _ _ => none
  | .toF _ _ => none
  | .fneg _ _ => none
  | .fop _ _ _ _ => none
  | .sel _ _ => none
end
structure Whole (ρ : Env) (e : NE) (x : NE × Nat) : Prop where
  rp : Rp (e.den ρ).toNat (x.1.den ρ)
  le : (x.1.den ρ).natAbs ≤ x.2
  mx : x.2 ≤ 9007199254740992
theorem Whole.inF {ρ : Env} {e : NE} {x : NE × Nat} (h : Whole ρ e x) : InF (x.1.den ρ) := by
  have h1 := h.le; have h2 := h.mx
  constructor <;> omega
theorem tight_ok {ρ : Env} {D : Dom} (hD : D.Holds ρ) {e : NE} {x : NE × Nat} (h : Whole ρ e x) : Whole ρ e (tight D x) := by
  unfold tight
  split
  · rename_i r hr
    have := sz_ok (iv_ok hD hr)
    exact ⟨h.rp, by simp only; have := h.le; omega, by simp only; have := h.mx; omega⟩
  · exact h
theorem natAbs_mul_le {x y : Int} {a b : Nat} (hx : x.natAbs ≤ a) (hy : y.natAbs ≤ b) : (x * y).natAbs ≤ a * b := by
  rw [Int.natAbs_mul]; exact Nat.mul_le_mul hx hy
theorem wOp_ok {ρ : Env} {o : BinOp} {a b : NE} {x y r : NE × Nat} (h : wOp o x y = some r) (ha : Whole ρ a x) (hb : Whole ρ b y) :
    (∃ u, fmt o .f64 (a.den ρ).toNat (b.den ρ).toNat = some u) ∧ Whole ρ (.fop o .f64 a b) r := by
  have la := ha.le; have lb := hb.le
  cases o <;> simp only [wOp] at h <;> try (cases h; done)
  case add =>
    split at h <;> cases h
    rename_i hm
    unfold mxF at hm
    obtain ⟨u, hu, hr⟩ := add_rp ha.rp hb.rp ha.inF hb.inF (by constructor <;> omega)
    have e : fmt .add .f64 (a.den ρ).toNat (b.den ρ).toNat = some u := hu
    refine ⟨⟨u, e⟩, ?_, ?_, hm⟩
    · simp only [NE.den, e, Option.getD_some, Int.toNat_natCast, mkAddI_den]; exact hr
    · rw [mkAddI_den]; omega
  case sub =>
    split at h <;> cases h
    rename_i hm
    unfold mxF at hm
    obtain ⟨u, hu, hr⟩ := sub_rp ha.rp hb.rp ha.inF hb.inF (by constructor <;> omega)
    have e : fmt .sub .f64 (a.den ρ).toNat (b.den ρ).toNat = some u := hu
    refine ⟨⟨u, e⟩, ?_, ?_, hm⟩
    · simp only [NE.den, e, Option.getD_some, Int.toNat_natCast, mkSubI_den]; exact hr
    · rw [mkSubI_den]; omega
  case mul =>
    split at h <;> cases h
    rename_i hm
    unfold mxF at hm
    have hp := natAbs_mul_le la lb
    obtain ⟨u, hu, hr⟩ := mul_rp ha.rp hb.rp ha.inF hb.inF (by constructor <;> omega)
    have e : fmt .mul .f64 (a.den ρ).toNat (b.den ρ).toNat = some u := hu
    refine ⟨⟨u, e⟩, ?_, ?_, hm⟩
    · simp only [NE.den, e, Option.getD_some, Int.toNat_natCast, mkMulI_den]; exact hr
    · rw [mkMulI_den]; exact hp
structure WholeA (ρ : Env) (e : NE) (x : NE × Nat) : Prop where
  all : ∀ j, Rp (e.aden ρ j).toNat (x.1.aden ρ j) ∧ (x.1.aden ρ j).natAbs ≤ x.2
  mx : x.2 ≤ 9007199254740992
mutual
theorem wh_ok {ρ : Env} {D : Dom} (hD : D.Holds ρ) : ∀ {e : NE} {x : NE × Nat}, wh D e = some x → Whole ρ e x
  | .lit n, x, h => by
    simp only [wh] at h
    obtain ⟨m, hm, rfl⟩ := Option.map_eq_some_iff.1 h
    have := litW_ok hm
    exact ⟨this.1, Nat.le_refl _, this.2⟩
  | .var i, x, h => by
    simp only [wh] at h
    obtain ⟨m, hm, rfl⟩ := Option.map_eq_some_iff.1 h
    have := hD.whs _ (findN_mem hm)
    exact tight_ok hD ⟨this.1, this.2.1, this.2.2⟩
  | .toF k e, x, h => by
    cases k <;> simp only [wh] at h
    · cases h
    · split at h
      · rename_i r hr
        split at h <;> cases h
        rename_i hs
        refine ⟨?_, sz_ok (iv_ok hD hr), hs⟩
        simp only [NE.den, Int.toNat_natCast]
        exact Rp_fi _
      · cases h
  | .fneg k a, x, h => by
    cases k <;> simp only [wh] at h
    · cases h
    · obtain ⟨y, hy, rfl⟩ := Option.map_eq_some_iff.1 h
      have := wh_ok hD hy
      refine ⟨?_, ?_, this.mx⟩
      · simp only [NE.den, Int.toNat_natCast, mkSubI_den, Int.zero_sub]
        exact neg_rp this.rp this.inF
      · rw [mkSubI_den]; have := this.le; simp only [NE.den]; omega
  | .fop o k a b, x, h => by
    cases k <;> simp only [wh] at h
    · cases h
    · split at h
      · rename_i y z hy hz
        exact (wOp_ok h (wh_ok hD hy) (wh_ok hD hz)).2
      · cases h
  | .sel a j, x, h => by
    simp only [wh] at h
    obtain ⟨y, hy, rfl⟩ := Option.map_eq_some_iff.1 h
    have := awh_ok hD hy
    refine ⟨?_, ?_, this.mx⟩
    · simp only [NE.den, mkSel_den]; exact (this.all _).1
    · simp only [mkSel_den]; exact (this.all _).2
  | .bin _ _ _, x, h => by simp [wh] at h
  | .wrap _ _, x, h => by simp [wh] at h
  | .avar _, x, h => by simp [wh] at h
  | .aupd _ _ _, x, h => by simp [wh] at h
  | .acst _, x, h => by simp [wh] at h
  | .acat _ _ _, x, h => by simp [wh] at h
  | .aoff _ _, x, h => by simp [wh] at h
theorem awh_ok {ρ : Env} {D : Dom} (hD : D.Holds ρ) : ∀ {e : NE} {x : NE × Nat}, awh D e = some x → WholeA ρ e x
  | .avar i, x, h => by
    simp only [awh] at h
    have := hD.awhs _ (findN_mem h)
    exact ⟨fun j => by simp only [NE.aden]; exact this.1 j, this.2⟩
  | .aupd a j v, x, h => by
    simp only [awh] at h
    split at h
    · rename_i y z hy hz
      cases h
      have h1 := awh_ok hD hy
      have h2 := wh_ok hD hz
      have m1 := h1.mx; have m2 := h2.mx; have l2 := h2.le
      refine ⟨fun i => ?_, by simp only; omega⟩
      simp only [NE.aden]
      split
      · exact ⟨h2.rp, by omega⟩
      · have := h1.all i; exact ⟨this.1, by have := this.2; omega⟩
    · cases h
  | .acst v, x, h => by
    simp only [awh] at h
    obtain ⟨y, hy, rfl⟩ := Option.map_eq_some_iff.1 h
    have := wh_ok hD hy
    exact ⟨fun j => by simp only [NE.aden]; exact ⟨this.rp, this.le⟩, this.mx⟩
  | .acat a n b, x, h => by
    simp only [awh] at h
    split at h
    · rename_i y z hy hz
      cases h
      have h1 := awh_ok hD hy
      have h2 := awh_ok hD hz
      have m1 := h1.mx; have m2 := h2.mx
      refine ⟨fun i => ?_, by simp only; omega⟩
      simp only [NE.aden]
      split
      · have := h1.all i; exact ⟨this.1, by have := this.2; omega⟩
      · have := h2.all (i - n.den ρ); exact ⟨this.1, by have := this.2; omega⟩
    · cases h
  | .aoff a d, x, h => by
    simp only [awh] at h
    obtain ⟨y, hy, rfl⟩ := Option.map_eq_some_iff.1 h
    have := awh_ok hD hy
    exact ⟨fun j => by simp only [NE.aden]; exact this.all _, this.mx⟩
  | .lit _, x, h => by simp [awh] at h
  | .var _, x, h => by simp [awh] at h
  | .bin _ _ _, x, h => by simp [awh] at h
  | .wrap _ _, x, h => by simp [awh] at h
  | .toF _ _, x, h => by simp [awh] at h
  | .fneg _ _, x, h => by simp [awh] at h
  | .fop _ _ _ _, x, h => by simp [awh] at h
  | .sel _ _, x, h => by simp [awh] at h
end
def non0 (D : Dom) (e : NE) : Bool := match iv D e with
  | some r => decide (0 < r.1) || decide (r.2 < 0)
  | none => false
theorem non0_ok {ρ : Env} {D : Dom} (hD : D.Holds ρ) {e : NE} (h : non0 D e = true) : e.den ρ ≠ 0 := by
  unfold non0 at h
  split at h
  · rename_i r hr
    have := iv_ok hD hr
    simp only [Rg] at this
    simp only [Bool.or_eq_true, decide_eq_true_eq] at h
    omega
  · cases h
/-- A float that is surely no -0. -/
def pz (D : Dom) : NE → Bool
  | .toF .f64 _ => true
  | .lit b => decide (b ≠ 9223372036854775808)
  | .fop .add .f64 a b => pz D a || pz D b
  | .fop .sub .f64 a _ => pz D a
  | .fop .mul .f64 a b => match wh D a, wh D b with
    | some x, some y => non0 D (mkMulI x.1 y.1)
    | _, _ => false
  | .fneg .f64 a => match wh D a with
    | some x => non0 D x.1
    | none => false
  | _ => false
theorem pz_ok {ρ : Env} {D : Dom} (hD : D.Holds ρ) : ∀ {e : NE} {x : NE × Nat}, wh D e = some x → pz D e = true → (e.den ρ).toNat = fi (x.1.den ρ)
  | .lit b, x, h, hp => by
    have hw := (wh_ok hD h).rp
    simp only [pz, decide_eq_true_eq] at hp
    rcases hw with h | ⟨h0, h⟩
    · exact h
    · exfalso
      simp only [NE.den] at h
      unfold nz at h
      omega
  | .toF k a, x, h, hp => by
    cases k <;> simp only [pz] at hp
    · cases hp
    · simp only [wh] at h
      split at h
      · split at h <;> cases h
        simp only [NE.den, Int.toNat_natCast]; rfl
      · cases h
  | .fop o k a b, x, h, hp => by
    cases k
    · cases o <;> simp [pz] at hp
    · simp only [wh] at h
      split at h
      · rename_i y z hy hz
        have wy := wh_ok hD hy; have wz := wh_ok hD hz
        have la := wy.le; have lb := wz.le
        cases o <;> simp only [pz] at hp <;> try (cases hp; done)
        case add =>
          simp only [wOp] at h
          split at h <;> cases h
          rename_i hm
          unfold mxF at hm
          simp only [Bool.or_eq_true] at hp
          have := add_exact wy.rp wz.rp wy.inF wz.inF (by constructor <;> omega) (hp.imp (fun h => pz_ok hD hy h) (fun h => pz_ok hD hz h))
          have e : fmt .add .f64 (a.den ρ).toNat (b.den ρ).toNat = some (fi (y.1.den ρ + z.1.den ρ)) := this
          simp only [NE.den, e, Option.getD_some, Int.toNat_natCast, mkAddI_den]
        case sub =>
          simp only [wOp] at h
          split at h <;> cases h
          rename_i hm
          unfold mxF at hm
          have := sub_exact (pz_ok hD hy hp) wz.rp wy.inF wz.inF (by constructor <;> omega)
          have e : fmt .sub .f64 (a.den ρ).toNat (b.den ρ).toNat = some (fi (y.1.den ρ - z.1.den ρ)) := this
          simp only [NE.den, e, Option.getD_some, Int.toNat_natCast, mkSubI_den]
        case mul =>
          simp only [wOp] at h
          split at h <;> cases h
          rename_i hm
          unfold mxF at hm
          rw [hy, hz] at hp
          have h0 := non0_ok hD hp
          rw [mkMulI_den] at h0
          have hm' := natAbs_mul_le la lb
          have := mul_exact wy.rp wz.rp wy.inF wz.inF (by constructor <;> omega) h0
          have e : fmt .mul .f64 (a.den ρ).toNat (b.den ρ).toNat = some (fi (y.1.den ρ * z.1.den ρ)) := this
          simp only [NE.den, e, Option.getD_some, Int.toNat_natCast, mkMulI_den]
      · cases h
  | .var _, _, _, hp => by simp [pz] at hp
  | .bin _ _ _, _, _, hp => by simp [pz] at hp
  | .wrap _ _, _, _, hp => by simp [pz] at hp
  | .sel _ _, _, _, hp => by simp [pz] at hp
  | .avar _, _, _, hp => by simp [pz] at hp
  | .aupd _ _ _, _, _, hp => by simp [pz] at hp
  | .acst _, _, _, hp => by simp [pz] at hp
  | .acat _ _ _, _, _, hp => by simp [pz] at hp
  | .aoff _ _, _, _, hp => by simp [pz] at hp
  | .fneg k a, x, h, hp => by
    cases k
    · simp [pz] at hp
    · have hw := wh_ok hD h
      simp only [wh] at h
      obtain ⟨y, hy, rfl⟩ := Option.map_eq_some_iff.1 h
      simp only [pz, hy] at hp
      have h0 := non0_ok hD hp
      have := hw.rp
      simp only [mkSubI_den] at this ⊢
      refine this.resolve_right fun e => h0 ?_
      have := e.1
      simp only [NE.den] at this
      omega

/-- A whole number with its sign, without variables. -/
def litZ : NE → Option (Int × Bool)
  | .toF .f64 (.lit n) => if n.natAbs ≤ 9007199254740992 then some (n, decide (n < 0)) else none
  | .lit b => if b = 9223372036854775808 then some (0, true) else (litW b).map fun m => (m, decide (m < 0))
  | _ => none
theorem litZ_ok {ρ : Env} {e : NE} {x : Int × Bool} (h : litZ e = some x) : Sg2 (e.den ρ).toNat x.1 x.2 := by
  unfold litZ at h
  split at h
  · split at h <;> cases h
    rename_i hn
    simp only [NE.den, Int.toNat_natCast]
    exact sg_fi ⟨by omega, by omega⟩
  · split at h
    · rename_i hb
      cases h
      subst hb
      exact sg_nz
    · rename_i hb
      obtain ⟨m, hm, rfl⟩ := Option.map_eq_some_iff.1 h
      obtain ⟨h1, h2⟩ := litW_ok hm
      simp only [NE.den]
      rcases h1 with h1 | ⟨_, h1⟩
      · rw [h1]; exact sg_fi ⟨by omega, by omega⟩
      · exfalso; unfold nz at h1; omega
  · cases h
/-- Products of such that are 0. -/
def zeroM (a b : NE) : Option NE := match litZ a, litZ b with
  | some x, some y => if x.1 * y.1 = 0 then some (if x.2 ^^ y.2 then .lit 9223372036854775808 else .toF .f64 (.lit 0)) else none
  | _, _ => none
theorem zeroM_ok {ρ : Env} {a b r : NE} (h : zeroM a b = some r) : fmt .mul .f64 (a.den ρ).toNat (b.den ρ).toNat = some (r.den ρ).toNat := by
  unfold zeroM at h
  split at h
  · rename_i x y hx hy
    split at h <;> cases h
    rename_i h0
    have := mul_zero_sg (litZ_ok (ρ := ρ) hx) (litZ_ok (ρ := ρ) hy) h0
    have e : fmt .mul .f64 (a.den ρ).toNat (b.den ρ).toNat = some (if x.2 ^^ y.2 then nz else 0) := this
    rw [e]
    congr 1
    split
    · rfl
    · simp only [NE.den, Int.toNat_natCast]; exact fi_zero.symm
  · cases h

/-- A float with what it holds: exactly so, if it is surely no -0. -/
def exactF (D : Dom) (e : NE) : NE := if pz D e then (match wh D e with
  | some x => .toF .f64 x.1
  | none => e) else e
theorem exactF_den {ρ : Env} {D : Dom} (hD : D.Holds ρ) (e : NE) : ((exactF D e).den ρ).toNat = (e.den ρ).toNat := by
  unfold exactF
  split
  · rename_i hp
    split
    · rename_i x hx
      rw [pz_ok hD hx hp]
      simp only [NE.den, Int.toNat_natCast]; rfl
    · rfl
  · rfl

/-- Floats that hold whole numbers, without variables. -/
def litF (op : BinOp) (x y : Int) : Option NE := if Nat.ble x.natAbs mxF && Nat.ble y.natAbs mxF then (match op with
  | .add => if Nat.ble (x + y).natAbs mxF then some (.toF .f64 (.lit (x + y))) else none
  | .sub => if Nat.ble (x - y).natAbs mxF then some (.toF .f64 (.lit (x - y))) else none
  | .mul => if Nat.ble (x * y).natAbs mxF then (if Nat.beq (x * y).natAbs 0 then some (if decide (x < 0) ^^ decide (y < 0) then .lit 9223372036854775808 else .toF .f64 (.lit 0)) else some (.toF .f64 (.lit (x * y)))) else none
  | _ => none) else none
theorem litF_ok {ρ : Env} {op : BinOp} {x y : Int} {r : NE} (h : litF op x y = some r) : fmt op .f64 (FloatKind.f64.nearest x) (FloatKind.f64.nearest y) = some (r.den ρ).toNat := by
  unfold litF at h
  split at h
  · rename_i hb
    simp only [Bool.and_eq_true] at hb
    have h1 := Nat.le_of_ble_eq_true hb.1
    have h2 := Nat.le_of_ble_eq_true hb.2
    unfold mxF at h1 h2
    have f1 : InF x := ⟨by omega, by omega⟩
    have f2 : InF y := ⟨by omega, by omega⟩
    split at h
    · split at h <;> cases h
      rename_i h3
      have h3 := Nat.le_of_ble_eq_true h3
      unfold mxF at h3
      simp only [NE.den, Int.toNat_natCast]
      exact add_exact (Rp_fi x) (Rp_fi y) f1 f2 ⟨by omega, by omega⟩ (.inl rfl)
    · split at h <;> cases h
      rename_i h3
      have h3 := Nat.le_of_ble_eq_true h3
      unfold mxF at h3
      simp only [NE.den, Int.toNat_natCast]
      exact sub_exact rfl (Rp_fi y) f1 f2 ⟨by omega, by omega⟩
    · split at h
      · rename_i h3
        have h3 := Nat.le_of_ble_eq_true h3
        unfold mxF at h3
        split at h <;> cases h
        · rename_i h0
          have h0 := Nat.eq_of_beq_eq_true h0
          have h0 : x * y = 0 := Int.natAbs_eq_zero.1 h0
          have e := mul_zero_sg (sg_fi f1) (sg_fi f2) h0
          have e' : fmt .mul .f64 (FloatKind.f64.nearest x) (FloatKind.f64.nearest y) = some (if decide (x < 0) ^^ decide (y < 0) then nz else 0) := e
          rw [e']
          congr 1
          split
          · rfl
          · simp only [NE.den, Int.toNat_natCast]; exact fi_zero.symm
        · rename_i h0
          simp only [NE.den, Int.toNat_natCast]
          refine mul_exact (Rp_fi x) (Rp_fi y) f1 f2 ⟨by omega, by omega⟩ fun e => h0 ?_
          rw [e]; rfl
      · cases h
    · cases h
  · cases h

/-- A number that is not wrapped is told so. -/
def unwT (D : Dom) (k : IntKind) (e0 e : NE) : NE := match iv D e0 with
  | some r => if fits k r then e0 else e
  | none => e
theorem unwT_den {ρ : Env} {D : Dom} (hD : D.Holds ρ) {k : IntKind} {e0 e : NE} (h : e.den ρ = k.wrap (e0.den ρ)) : (unwT D k e0 e).den ρ = e.den ρ := by
  unfold unwT
  split
  · rename_i r hr
    split
    · rename_i hf
      have := iv_ok hD hr
      rw [h, fits_ok hf this.1 this.2]
    · rfl
  · rfl
def unw (D : Dom) (e : NE) : NE := match e with
  | .bin (.addW k) a b => unwT D k (mkAddI a b) e
  | .bin (.subW k) a b => unwT D k (mkSubI a b) e
  | .bin (.mulW k) a b => unwT D k (mkMulI a b) e
  | .bin (.quoW k) a b => unwT D k (mkQuoI a b) e
  | .wrap k a => unwT D k a e
  | .fneg .f64 a => exactF D e
  | e => e
theorem unw_den {ρ : Env} {D : Dom} (hD : D.Holds ρ) (e : NE) : (unw D e).den ρ = e.den ρ := by
  unfold unw
  split
  · exact unwT_den hD (by rw [mkAddI_den]; rfl)
  · exact unwT_den hD (by rw [mkSubI_den]; rfl)
  · exact unwT_den hD (by rw [mkMulI_den]; rfl)
  · exact unwT_den hD (by rw [mkQuoI_den]; rfl)
  · exact unwT_den hD rfl
  · rename_i a
    have h := exactF_den hD (.fneg .f64 a)
    have h1 : 0 ≤ (exactF D (.fneg .f64 a)).den ρ := by
      unfold exactF
      split
      · split
        · exact Int.natCast_nonneg _
        · exact Int.natCast_nonneg _
      · exact Int.natCast_nonneg _
    have h2 : 0 ≤ (NE.fneg .f64 a).den ρ := Int.natCast_nonneg _
    omega
  · rfl

/-- Comparisons of floats that hold whole numbers are those of the numbers. -/
theorem flo_whole {ρ : Env} {a b : NE} {x y : NE × Nat} (ha : Whole ρ a x) (hb : Whole ρ b y) (o : COp) : COp.flo .f64 o (a.den ρ).toNat (b.den ρ).toNat = o.int (x.1.den ρ) (y.1.den ρ) := by
  have h : FloatKind.f64.format.order (a.den ρ).toNat (b.den ρ).toNat = some (compare (x.1.den ρ) (y.1.den ρ)) := order_rp ha.rp hb.rp ha.inF hb.inF
  generalize x.1.den ρ = p at *
  generalize y.1.den ρ = q at *
  rcases Int.lt_trichotomy p q with h1 | h1 | h1
  · have e : compare p q = .lt := by simp [compare, compareOfLessAndEq, h1]
    rw [e] at h
    have hn : p ≠ q := by omega
    have hb : (p == q) = false := by simpa using hn
    cases o <;> simp only [COp.flo, COp.int, h, bne, hb] <;> simp <;> omega
  · have e : compare p q = .eq := by simp [compare, compareOfLessAndEq, h1]
    rw [e] at h
    cases o <;> simp [COp.flo, COp.int, h] <;> omega
  · have e : compare p q = .gt := by simp only [compare, compareOfLessAndEq]; rw [if_neg (by omega), if_neg (by omega)]
    rw [e] at h
    have hn : p ≠ q := by omega
    have hb : (p == q) = false := by simpa using hn
    cases o <;> simp only [COp.flo, COp.int, h, bne, hb] <;> simp <;> omega
end Go.Proofs.Ytgdhpgjfebinhaa.Ev
