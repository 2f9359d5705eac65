/- A symbolic machine for the model's programs, with rows of unknown length: its numbers, truths and values, and what they stand for. -/
import Derived.Below
import Derived.Orders
import Derived.Laws.Rows
namespace Go.Proofs.Ytgdhpgjfebinhaa.Ev
set_option linter.unusedSimpArgs false
open Go Go.RowKit
set_option linter.unusedVariables false

/-- Texts by numbers. -/
def deL (n : Nat) : List UInt8 := if h : n = 0 then [] else UInt8.ofNat ((n - 1) % 256) :: deL ((n - 1) / 256)
termination_by n
decreasing_by omega
def enL : List UInt8 → Nat
  | [] => 0
  | b :: l => 256 * enL l + b.toNat + 1
theorem deL_enL : ∀ l : List UInt8, deL (enL l) = l
  | [] => by rw [enL, deL]; simp
  | b :: l => by
    have hb : b.toNat < 256 := b.toNat_lt
    rw [enL, deL, dif_neg (by omega)]
    have e1 : (256 * enL l + b.toNat + 1 - 1) % 256 = b.toNat := by omega
    have e2 : (256 * enL l + b.toNat + 1 - 1) / 256 = enL l := by omega
    rw [e1, e2, deL_enL l]; simp
def deS (n : Int) : ByteArray := ⟨(deL n.toNat).toArray⟩
def enS (s : ByteArray) : Int := enL s.data.toList
theorem enL_deL : ∀ n : Nat, enL (deL n) = n := by
  intro n
  induction n using Nat.strongRecOn with
  | ind n ih =>
    rw [deL]
    split
    · rename_i h; subst h; rfl
    · rename_i h
      rw [enL, ih _ (by omega)]
      have : (UInt8.ofNat ((n - 1) % 256)).toNat = (n - 1) % 256 := by simp
      rw [this]; omega
theorem deS_enS (s : ByteArray) : deS (enS s) = s := by
  unfold deS enS; rw [Int.toNat_natCast, deL_enL]
theorem deS_inj (a b : Int) : (deS a = deS b) ↔ max a 0 = max b 0 := by
  constructor
  · intro h
    have h1 : deL a.toNat = deL b.toNat := by
      have := congrArg (fun s : ByteArray => s.data.toList) h
      simpa [deS] using this
    have h2 := congrArg enL h1
    rw [enL_deL, enL_deL] at h2
    omega
  · intro h
    have : a.toNat = b.toNat := by omega
    unfold deS; rw [this]
def atS (s : ByteArray) (i : Int) : Int := if 0 ≤ i then (match s[i.toNat]? with
  | some b => b.toNat
  | none => 0) else 0

/-- Operations of two numbers. -/
inductive NOp where
  | addW (k : IntKind) | subW (k : IntKind) | mulW (k : IntKind) | quoW (k : IntKind) | remK | andK (k : IntKind) | orK (k : IntKind) | xorK (k : IntKind) | andNotK (k : IntKind) | shlK (k : IntKind) | shrK (k : IntKind) | maxI | minI
  | addI | subI | mulI | quoI
  | sLen | sAt | sCat | sDrop | sTake | eqN | leN
  deriving DecidableEq, Repr, Inhabited

def NOp.den : NOp → Int → Int → Int
  | .addW k, x, y => k.wrap (x + y)
  | .subW k, x, y => k.wrap (x - y)
  | .mulW k, x, y => k.wrap (x * y)
  | .quoW k, x, y => k.wrap (x.tdiv y)
  | .remK, x, y => x.tmod y
  | .andK k, x, y => k.wrap (BitVec.ofInt k.bits x &&& BitVec.ofInt k.bits y).toNat
  | .orK k, x, y => k.wrap (BitVec.ofInt k.bits x ||| BitVec.ofInt k.bits y).toNat
  | .xorK k, x, y => k.wrap (BitVec.ofInt k.bits x ^^^ BitVec.ofInt k.bits y).toNat
  | .andNotK k, x, y => k.wrap (BitVec.ofInt k.bits x &&& ~~~BitVec.ofInt k.bits y).toNat
  | .shlK k, x, y => k.wrap (x * 2 ^ (min y.toNat k.bits))
  | .shrK k, x, y => x.fdiv (2 ^ (min y.toNat k.bits))
  | .maxI, x, y => if y > x then y else x
  | .minI, x, y => if y < x then y else x
  | .addI, x, y => x + y
  | .subI, x, y => x - y
  | .mulI, x, y => x * y
  | .quoI, x, y => x.tdiv y
  | .eqN, x, y => if x = y then 1 else 0
  | .leN, x, y => if x ≤ y then 1 else 0
  | .sLen, x, _ => ((deS x).size : Int)
  | .sAt, x, y => atS (deS x) y
  | .sCat, x, y => enS (deS x ++ deS y)
  | .sDrop, x, y => enS ((deS x).extract y.toNat (deS x).size)
  | .sTake, x, y => enS ((deS x).extract 0 y.toNat)

def fmt : BinOp → FloatKind → Nat → Nat → Option Nat
  | .add, k, x, y => k.format.add x y
  | .sub, k, x, y => k.format.sub x y
  | .mul, k, x, y => k.format.mul x y
  | .quo, k, x, y => k.format.div x y
  | _, _, _, _ => none

/-- Numbers: whole ones, and floats by their bits; and rows of numbers. -/
inductive NE where
  | lit (n : Int) | var (i : Nat) | bin (o : NOp) (a b : NE) | wrap (k : IntKind) (a : NE) | toF (k : FloatKind) (a : NE) | fneg (k : FloatKind) (a : NE) | fop (o : BinOp) (k : FloatKind) (a b : NE)
  | sel (a j : NE) | avar (i : Nat) | aupd (a j v : NE) | acst (v : NE) | acat (a n b : NE) | aoff (a d : NE)
  deriving DecidableEq, Repr, Inhabited

/-- What is known of the variables. -/
structure Env where
  n : Nat → Int
  b : Nat → Bool
  s : Nat → ByteArray
  v : Nat → Value
  a : Nat → Int → Int := fun _ _ => 0

mutual
def NE.den (ρ : Env) : NE → Int
  | .lit n => n
  | .var i => ρ.n i
  | .bin o a b => o.den (a.den ρ) (b.den ρ)
  | .wrap k a => k.wrap (a.den ρ)
  | .toF k a => ((k.nearest (a.den ρ) : Nat) : Int)
  | .fneg k a => ((Op.negFloat k (a.den ρ).toNat : Nat) : Int)
  | .fop o k a b => (((fmt o k (a.den ρ).toNat (b.den ρ).toNat).getD 0 : Nat) : Int)
  | .sel a j => a.aden ρ (j.den ρ)
  | .avar _ => 0
  | .aupd _ _ _ => 0
  | .acst _ => 0
  | .acat _ _ _ => 0
  | .aoff _ _ => 0
/-- Rows. -/
def NE.aden (ρ : Env) : NE → Int → Int
  | .avar i => ρ.a i
  | .aupd a j v => fun x => if x = j.den ρ then v.den ρ else a.aden ρ x
  | .acst v => fun _ => v.den ρ
  | .acat a n b => fun x => if x < n.den ρ then a.aden ρ x else b.aden ρ (x - n.den ρ)
  | .aoff a d => fun x => a.aden ρ (x + d.den ρ)
  | .lit _ => fun _ => 0
  | .var _ => fun _ => 0
  | .bin _ _ _ => fun _ => 0
  | .wrap _ _ => fun _ => 0
  | .toF _ _ => fun _ => 0
  | .fneg _ _ => fun _ => 0
  | .fop _ _ _ _ => fun _ => 0
  | .sel _ _ => fun _ => 0
end
/-- A number of a row. -/
def mkSel (a j : NE) : NE := match a with
  | .acst v => v
  | .aupd a i v => if i = j then v else .sel (.aupd a i v) j
  | a => .sel a j
theorem mkSel_den (ρ : Env) (a j : NE) : (mkSel a j).den ρ = a.aden ρ (j.den ρ) := by
  unfold mkSel; split
  · simp [NE.aden]
  · split
    · rename_i h; subst h; simp [NE.aden]
    · simp [NE.den]
  · simp [NE.den]

def mkBin (o : NOp) (a b : NE) : NE := match a, b with
  | .lit x, .lit y => .lit (o.den x y)
  | a, b => .bin o a b
theorem mkBin_den (ρ : Env) (o : NOp) (a b : NE) : (mkBin o a b).den ρ = o.den (a.den ρ) (b.den ρ) := by
  unfold mkBin; split <;> rfl
def mkWrap (k : IntKind) (a : NE) : NE := match a with
  | .lit x => .lit (k.wrap x)
  | a => .wrap k a
theorem mkWrap_den (ρ : Env) (k : IntKind) (a : NE) : (mkWrap k a).den ρ = k.wrap (a.den ρ) := by
  unfold mkWrap; split <;> rfl
def mkToF (k : FloatKind) (a : NE) : NE := match a with
  | .lit x => .lit (k.nearest x : Nat)
  | a => .toF k a
theorem mkToF_den (ρ : Env) (k : FloatKind) (a : NE) : (mkToF k a).den ρ = ((k.nearest (a.den ρ) : Nat) : Int) := by
  unfold mkToF; split <;> rfl
def mkFneg (k : FloatKind) (a : NE) : NE := match a with
  | .lit x => .lit (Op.negFloat k x.toNat : Nat)
  | a => .fneg k a
theorem mkFneg_den (ρ : Env) (k : FloatKind) (a : NE) : (mkFneg k a).den ρ = ((Op.negFloat k (a.den ρ).toNat : Nat) : Int) := by
  unfold mkFneg; split <;> rfl

/-- Comparisons. -/
inductive COp where
  | eql | neq | lss | leq | gtr | geq
  deriving DecidableEq, Repr, Inhabited
def COp.ofBin : BinOp → Option COp
  | .eql => some .eql | .neq => some .neq | .lss => some .lss | .leq => some .leq | .gtr => some .gtr | .geq => some .geq
  | _ => none
def COp.int : COp → Int → Int → Bool
  | .eql, x, y => x == y | .neq, x, y => x != y | .lss, x, y => decide (x < y) | .leq, x, y => decide (x ≤ y) | .gtr, x, y => decide (x > y) | .geq, x, y => decide (x ≥ y)
def COp.flo (k : FloatKind) : COp → Nat → Nat → Bool
  | .eql, x, y => k.format.order x y == some .eq | .neq, x, y => k.format.order x y != some .eq | .lss, x, y => k.format.order x y == some .lt
  | .leq, x, y => k.format.order x y == some .lt || k.format.order x y == some .eq | .gtr, x, y => k.format.order x y == some .gt
  | .geq, x, y => k.format.order x y == some .gt || k.format.order x y == some .eq

/-- Truths. -/
inductive BE where
  | lit (b : Bool) | var (i : Nat) | icmp (o : COp) (a b : NE) | fcmp (k : FloatKind) (o : COp) (a b : NE) | not (a : BE) | and (a b : BE) | beq (a b : BE)
  deriving DecidableEq, Repr, Inhabited
def BE.den (ρ : Env) : BE → Bool
  | .lit b => b | .var i => ρ.b i
  | .icmp o a b => o.int (a.den ρ) (b.den ρ)
  | .fcmp k o a b => o.flo k (a.den ρ).toNat (b.den ρ).toNat
  | .not a => !(a.den ρ)
  | .and a b => a.den ρ && b.den ρ
  | .beq a b => a.den ρ == b.den ρ
def mkIcmp (o : COp) (a b : NE) : BE := match a, b with
  | .lit x, .lit y => .lit (o.int x y)
  | a, b => .icmp o a b
theorem mkIcmp_den (ρ : Env) (o : COp) (a b : NE) : (mkIcmp o a b).den ρ = o.int (a.den ρ) (b.den ρ) := by
  unfold mkIcmp; split <;> rfl
def mkFcmp (k : FloatKind) (o : COp) (a b : NE) : BE := match a, b with
  | .lit x, .lit y => .lit (o.flo k x.toNat y.toNat)
  | a, b => .fcmp k o a b
theorem mkFcmp_den (ρ : Env) (k : FloatKind) (o : COp) (a b : NE) : (mkFcmp k o a b).den ρ = o.flo k (a.den ρ).toNat (b.den ρ).toNat := by
  unfold mkFcmp; split <;> rfl
def mkNot (a : BE) : BE := match a with
  | .lit x => .lit (!x)
  | a => .not a
theorem mkNot_den (ρ : Env) (a : BE) : (mkNot a).den ρ = !(a.den ρ) := by
  unfold mkNot; split <;> rfl
def mkAnd (a b : BE) : BE := match a, b with
  | .lit true, b => b
  | .lit false, _ => .lit false
  | a, .lit true => a
  | a, b => .and a b
theorem mkAnd_den (ρ : Env) (a b : BE) : (mkAnd a b).den ρ = (a.den ρ && b.den ρ) := by
  unfold mkAnd; split <;> simp [BE.den]

/-- Values. Blocks are numbered in the order in which they were made. -/
inductive SV where
  | bool (b : BE) | int (k : IntKind) (n : NE) | float (k : FloatKind) (f : NE) | complex (k : FloatKind) (re im : NE)
  | str (s : ByteArray) | strv (i : Nat) | any (i : Nat)
  | ptr (a : Option Addr) | slice (a : Option Addr) (len cap : Nat) | vec (b len : Nat)
  | asl (b : Nat) (n : NE) | eptr (b : Nat) (i : NE) (st c : Nat) | strn (e : NE) | yld (b : Nat) | vsl (b st lo len : Nat) | rsl (b st : Nat) (lo hi : NE)
  | func (fn : Fn) (first captured : List SV) | nilFunc | nilIface | iface (t : TypeId) (v : SV)
  | agg (l : List SV) | tuple (l : List SV)
  deriving Inhabited

/-- Where the blocks lie, the capacities of those that grew, where rows begin; and rows without numbers that lie nowhere. -/
structure Sg where
  blk : Nat → Nat
  cap : Nat → Nat
  off : Nat → Nat := fun _ => 0
  gh : Nat → Option (Option Addr) := fun _ => none

def Sg.addr (σ : Sg) (a : Addr) : Addr := { a with block := σ.blk a.block }

mutual
def SV.den (ρ : Env) (σ : Sg) : SV → Value
  | .bool b => .bool (b.den ρ)
  | .int k n => .int k (n.den ρ)
  | .float k f => .float k (f.den ρ).toNat
  | .complex k a b => .complex k (a.den ρ).toNat (b.den ρ).toNat
  | .str s => .string s
  | .strv i => .string (ρ.s i)
  | .any i => ρ.v i
  | .ptr a => .pointer (a.map σ.addr)
  | .slice a n c => .slice (a.map σ.addr) n c
  | .vec b n => .slice (some ⟨σ.blk b, 0, none⟩) n (σ.cap b)
  | .asl b n => (match σ.gh b with
    | some a => .slice a 0 0
    | none => .slice (some ⟨σ.blk b, σ.off b, none⟩) (n.den ρ).toNat (σ.cap b))
  | .yld b => .func (.yield (σ.blk b)) #[] #[]
  | .vsl b st lo n => .slice (some ⟨σ.blk b, if σ.cap b = lo then 0 else lo * st, none⟩) n (σ.cap b - lo)
  | .rsl b st lo hi => (match σ.gh b with
    | some a => .slice a 0 0
    | none => .slice (some ⟨σ.blk b, if (σ.cap b : Int) = lo.den ρ then σ.off b else σ.off b + (lo.den ρ).toNat * st, none⟩) (hi.den ρ - lo.den ρ).toNat (σ.cap b - (lo.den ρ).toNat))
  | .eptr b i st c => .pointer (some ⟨σ.blk b, σ.off b + (i.den ρ).toNat * st + c, none⟩)
  | .strn e => .string (deS (e.den ρ))
  | .func fn f c => .func fn (denL ρ σ f).toArray (denL ρ σ c).toArray
  | .nilFunc => .nilFunc
  | .nilIface => .nilIface
  | .iface t v => .iface t (v.den ρ σ)
  | .agg l => .agg (denL ρ σ l).toArray
  | .tuple l => .tuple (denL ρ σ l).toArray
def denL (ρ : Env) (σ : Sg) : List SV → List Value
  | [] => []
  | v :: l => v.den ρ σ :: denL ρ σ l
end

theorem denL_map (ρ : Env) (σ : Sg) (l : List SV) : denL ρ σ l = l.map (·.den ρ σ) := by
  induction l with
  | nil => rfl
  | cons v l ih => simp [denL, ih]

mutual
/-- All blocks that a value names are among the first n. -/
def SV.inside (n : Nat) : SV → Bool
  | .ptr (some a) => decide (a.block < n)
  | .slice (some a) _ _ => decide (a.block < n)
  | .vec b _ => decide (b < n)
  | .asl b _ => decide (b < n)
  | .eptr b _ _ _ => decide (b < n)
  | .yld b => decide (b < n)
  | .vsl b _ _ _ => decide (b < n)
  | .rsl b _ _ _ => decide (b < n)
  | .func _ f c => insideL n f && insideL n c
  | .iface _ v => v.inside n
  | .agg l => insideL n l
  | .tuple l => insideL n l
  | _ => true
def insideL (n : Nat) : List SV → Bool
  | [] => true
  | v :: l => v.inside n && insideL n l
end

theorem insideL_all (n : Nat) (l : List SV) : insideL n l = l.all (·.inside n) := by
  induction l with
  | nil => rfl
  | cons v l ih => simp [insideL, ih]
theorem insideL_mem {n : Nat} {l : List SV} (h : insideL n l = true) {v : SV} (hv : v ∈ l) : v.inside n = true := by
  rw [insideL_all] at h; exact List.all_eq_true.1 h v hv
theorem insideL_of {n : Nat} {l : List SV} (h : ∀ v ∈ l, v.inside n = true) : insideL n l = true := by
  rw [insideL_all]; exact List.all_eq_true.2 h

mutual
theorem SV.inside_mono {n m : Nat} (hm : n ≤ m) : ∀ v : SV, v.inside n = true → v.inside m = true
  | .ptr (some a), h => decide_eq_true (Nat.lt_of_lt_of_le (of_decide_eq_true h) hm)
  | .slice (some a) _ _, h => decide_eq_true (Nat.lt_of_lt_of_le (of_decide_eq_true h) hm)
  | .vec b _, h => decide_eq_true (Nat.lt_of_lt_of_le (of_decide_eq_true h) hm)
  | .asl b _, h => decide_eq_true (Nat.lt_of_lt_of_le (of_decide_eq_true h) hm)
  | .eptr b _ _ _, h => decide_eq_true (Nat.lt_of_lt_of_le (of_decide_eq_true h) hm)
  | .yld b, h => decide_eq_true (Nat.lt_of_lt_of_le (of_decide_eq_true h) hm)
  | .vsl b _ _ _, h => decide_eq_true (Nat.lt_of_lt_of_le (of_decide_eq_true h) hm)
  | .rsl b _ _ _, h => decide_eq_true (Nat.lt_of_lt_of_le (of_decide_eq_true h) hm)
  | .func _ f c, h => by simp only [SV.inside, Bool.and_eq_true] at h ⊢; exact ⟨insideL_mono hm f h.1, insideL_mono hm c h.2⟩
  | .iface _ v, h => by simp only [SV.inside] at h ⊢; exact v.inside_mono hm h
  | .agg l, h => by simp only [SV.inside] at h ⊢; exact insideL_mono hm l h
  | .tuple l, h => by simp only [SV.inside] at h ⊢; exact insideL_mono hm l h
  | .ptr none, _ => rfl
  | .slice none _ _, _ => rfl
  | .bool _, _ => rfl
  | .int _ _, _ => rfl
  | .float _ _, _ => rfl
  | .complex _ _ _, _ => rfl
  | .str _, _ => rfl
  | .strv _, _ => rfl
  | .strn _, _ => rfl
  | .any _, _ => rfl
  | .nilFunc, _ => rfl
  | .nilIface, _ => rfl
theorem insideL_mono {n m : Nat} (hm : n ≤ m) : ∀ l : List SV, insideL n l = true → insideL m l = true
  | [], _ => rfl
  | v :: l, h => by simp only [insideL, Bool.and_eq_true] at h ⊢; exact ⟨v.inside_mono hm h.1, insideL_mono hm l h.2⟩
end

/-- Two placings agree on the first n blocks. -/
def Sg.agree (n : Nat) (σ σ' : Sg) : Prop := ∀ b, b < n → σ'.blk b = σ.blk b ∧ σ'.cap b = σ.cap b ∧ σ'.off b = σ.off b ∧ σ'.gh b = σ.gh b

theorem Sg.agree.addr {n : Nat} {σ σ' : Sg} (h : σ.agree n σ') {a : Addr} (ha : a.block < n) : σ'.addr a = σ.addr a := by
  unfold Sg.addr; rw [(h _ ha).1]
mutual
theorem SV.den_agree {ρ : Env} {n : Nat} {σ σ' : Sg} (h : σ.agree n σ') : ∀ v : SV, v.inside n = true → v.den ρ σ' = v.den ρ σ
  | .ptr (some a), hs => by simp [SV.den, h.addr (of_decide_eq_true hs)]
  | .slice (some a) _ _, hs => by simp [SV.den, h.addr (of_decide_eq_true hs)]
  | .vec b _, hs => by simp [SV.den, h b (of_decide_eq_true hs)]
  | .asl b _, hs => by simp [SV.den, h b (of_decide_eq_true hs)]
  | .eptr b _ _ _, hs => by simp [SV.den, h b (of_decide_eq_true hs)]
  | .yld b, hs => by simp [SV.den, h b (of_decide_eq_true hs)]
  | .vsl b _ _ _, hs => by simp [SV.den, h b (of_decide_eq_true hs)]
  | .rsl b _ _ _, hs => by simp [SV.den, h b (of_decide_eq_true hs)]
  | .func _ f c, hs => by simp only [SV.inside, Bool.and_eq_true] at hs; simp only [SV.den, denL_agree h f hs.1, denL_agree h c hs.2]
  | .iface _ v, hs => by simp only [SV.inside] at hs; simp only [SV.den, v.den_agree h hs]
  | .agg l, hs => by simp only [SV.inside] at hs; simp only [SV.den, denL_agree h l hs]
  | .tuple l, hs => by simp only [SV.inside] at hs; simp only [SV.den, denL_agree h l hs]
  | .ptr none, _ => rfl
  | .slice none _ _, _ => rfl
  | .bool _, _ => rfl
  | .int _ _, _ => rfl
  | .float _ _, _ => rfl
  | .complex _ _ _, _ => rfl
  | .str _, _ => rfl
  | .strv _, _ => rfl
  | .strn _, _ => rfl
  | .any _, _ => rfl
  | .nilFunc, _ => rfl
  | .nilIface, _ => rfl
theorem denL_agree {ρ : Env} {n : Nat} {σ σ' : Sg} (h : σ.agree n σ') : ∀ l : List SV, insideL n l = true → denL ρ σ' l = denL ρ σ l
  | [], _ => rfl
  | v :: l, hs => by simp only [insideL, Bool.and_eq_true] at hs; simp only [denL, v.den_agree h hs.1, denL_agree h l hs.2]
end

/-- The cells of a value. -/
def SV.cells : SV → List SV
  | .agg l => l
  | v => [v]
/-- A value of which nothing is known. -/
def SV.isAny : SV → Bool
  | .any _ => true
  | _ => false
theorem SV.cells_den (ρ : Env) (σ : Sg) (v : SV) (hv : v.isAny = false) : (v.den ρ σ).cells = (denL ρ σ v.cells).toArray := by
  cases v with
  | asl b n => simp only [SV.den, SV.cells, denL]; cases σ.gh b <;> rfl
  | rsl b st lo hi => simp only [SV.den, SV.cells, denL]; cases σ.gh b <;> rfl
  | _ => simp_all [SV.den, SV.cells, Value.cells, denL, SV.isAny]
theorem SV.cells_inside {n : Nat} {v : SV} (h : v.inside n = true) : insideL n v.cells = true := by
  cases v with
  | agg l => exact h
  | _ => simp only [SV.cells, insideL, Bool.and_true]; exact h
/-- A value of one cell. -/
def SV.isCell : SV → Bool
  | .agg _ => false
  | .tuple _ => false
  | .any _ => false
  | _ => true

/-- A number without variables. -/
def NE.num? : NE → Option Int
  | .lit n => some n
  | .toF k (.lit n) => some (k.nearest n : Nat)
  | _ => none
theorem NE.num_den {ρ : Env} {e : NE} {n : Int} (h : e.num? = some n) : e.den ρ = n := by
  unfold NE.num? at h
  split at h <;> cases h <;> rfl
mutual
/-- A value without blocks and without variables, as the model's. -/
def SV.lit? : SV → Option Value
  | .bool (.lit b) => some (.bool b)
  | .int k (.lit n) => some (.int k n)
  | .float k e => e.num?.map fun n => .float k n.toNat
  | .complex k a b => match a.num?, b.num? with
    | some x, some y => some (.complex k x.toNat y.toNat)
    | _, _ => none
  | .str s => some (.string s)
  | .ptr none => some (.pointer none)
  | .slice none n c => some (.slice none n c)
  | .nilFunc => some .nilFunc
  | .nilIface => some .nilIface
  | .iface t v => v.lit?.map (.iface t)
  | .agg l => (litL? l).map fun l => .agg l.toArray
  | .tuple l => (litL? l).map fun l => .tuple l.toArray
  | _ => none
def litL? : List SV → Option (List Value)
  | [] => some []
  | v :: l => match v.lit?, litL? l with
    | some x, some y => some (x :: y)
    | _, _ => none
end
mutual
theorem SV.lit_den {ρ : Env} {σ : Sg} : ∀ (v : SV) (x : Value), v.lit? = some x → v.den ρ σ = x
  | .bool (.lit _), x, h | .int _ (.lit _), x, h | .str _, x, h | .ptr none, x, h | .slice none _ _, x, h | .nilFunc, x, h | .nilIface, x, h => by
    simp [SV.lit?] at h; subst h; simp [SV.den, BE.den, NE.den]
  | .iface t v, x, h => by
    simp only [SV.lit?, Option.map_eq_some_iff] at h
    obtain ⟨y, hy, rfl⟩ := h
    simp only [SV.den, v.lit_den y hy]
  | .agg l, x, h => by
    simp only [SV.lit?, Option.map_eq_some_iff] at h
    obtain ⟨y, hy, rfl⟩ := h
    simp only [SV.den, litL_den l y hy]
  | .tuple l, x, h => by
    simp only [SV.lit?, Option.map_eq_some_iff] at h
    obtain ⟨y, hy, rfl⟩ := h
    simp only [SV.den, litL_den l y hy]
  | .strv _, x, h | .strn _, x, h | .any _, x, h | .ptr (some _), x, h | .slice (some _) _ _, x, h | .vec _ _, x, h | .asl _ _, x, h | .eptr _ _ _ _, x, h | .yld _, x, h | .vsl _ _ _ _, x, h | .rsl _ _ _ _, x, h | .func _ _ _, x, h => by simp [SV.lit?] at h
  | .bool (.var _), x, h | .bool (.icmp _ _ _), x, h | .bool (.fcmp _ _ _ _), x, h | .bool (.not _), x, h | .bool (.and _ _), x, h | .bool (.beq _ _), x, h => by simp [SV.lit?] at h
  | .int _ (.var _), x, h | .int _ (.bin _ _ _), x, h | .int _ (.wrap _ _), x, h | .int _ (.toF _ _), x, h | .int _ (.fneg _ _), x, h | .int _ (.fop _ _ _ _), x, h | .int _ (.sel _ _), x, h | .int _ (.avar _), x, h | .int _ (.aupd _ _ _), x, h | .int _ (.acst _), x, h | .int _ (.acat _ _ _), x, h | .int _ (.aoff _ _), x, h => by simp [SV.lit?] at h
  | .float k e, x, h => by
    simp only [SV.lit?] at h
    obtain ⟨n, hn, rfl⟩ := Option.map_eq_some_iff.1 h
    simp only [SV.den, NE.num_den hn]
  | .complex k a b, x, h => by
    simp only [SV.lit?] at h
    split at h
    · rename_i m n hm hn
      cases h
      simp only [SV.den, NE.num_den hm, NE.num_den hn]
    · cases h
theorem litL_den {ρ : Env} {σ : Sg} : ∀ (l : List SV) (x : List Value), litL? l = some x → denL ρ σ l = x
  | [], x, h => by simp [litL?] at h; subst h; rfl
  | v :: l, x, h => by
    simp only [litL?] at h
    split at h
    · rename_i a b ha hb
      cases h
      simp only [denL, v.lit_den _ ha, litL_den l _ hb]
    · cases h
end

/-- The model's value without blocks. -/
def ofVal : Nat → Value → Option SV
  | 0, _ => none
  | d + 1, v => match v with
    | .bool b => some (.bool (.lit b))
    | .int k n => some (.int k (.lit n))
    | .float k b => some (.float k (.lit b))
    | .complex k a b => some (.complex k (.lit a) (.lit b))
    | .string s => some (.str s)
    | .pointer none => some (.ptr none)
    | .slice none n c => some (.slice none n c)
    | .nilFunc => some .nilFunc
    | .nilIface => some .nilIface
    | .iface t v => (ofVal d v).map (.iface t)
    | .func fn f c => if f.size = 0 ∧ c.size = 0 then some (.func fn [] []) else none
    | .agg c => (c.toList.mapM (ofVal d)).map .agg
    | .tuple c => (c.toList.mapM (ofVal d)).map .tuple
    | _ => none
theorem ofVal_any : ∀ (d : Nat) (v : Value) (x : SV), ofVal d v = some x → x.isAny = false
  | 0, _, _, h => by cases h
  | d + 1, v, x, h => by
    cases v <;> simp only [ofVal] at h
    case bool | int | float | complex | string | nilFunc | nilIface => cases h; rfl
    case iface t v => obtain ⟨r, hr, rfl⟩ := Option.map_eq_some_iff.1 h; rfl
    case pointer a => cases a <;> cases h; rfl
    case slice a n c => cases a <;> cases h; rfl
    case func fn f c => split at h <;> cases h; rfl
    case agg c => obtain ⟨r, hr, rfl⟩ := Option.map_eq_some_iff.1 h; rfl
    case tuple c => obtain ⟨r, hr, rfl⟩ := Option.map_eq_some_iff.1 h; rfl
    all_goals cases h
theorem ofVal_den {ρ : Env} {σ : Sg} : ∀ (d : Nat) (v : Value) (x : SV), ofVal d v = some x → x.den ρ σ = v ∧ ∀ n, x.inside n = true
  | 0, _, _, h => by cases h
  | d + 1, v, x, h => by
    have key : ∀ (l : List Value) (r : List SV), l.mapM (ofVal d) = some r → denL ρ σ r = l ∧ ∀ n, insideL n r = true := by
      intro l
      induction l with
      | nil => intro r hr; simp at hr; subst hr; exact ⟨rfl, fun _ => rfl⟩
      | cons a l ih =>
        intro r hr
        simp only [List.mapM_cons, Option.pure_def, Option.bind_eq_bind, Option.bind_eq_some_iff] at hr
        obtain ⟨b, hb, bs, hbs, he⟩ := hr
        cases he
        obtain ⟨e1, s1⟩ := ofVal_den (ρ := ρ) (σ := σ) d a b hb
        obtain ⟨e2, s2⟩ := ih bs hbs
        exact ⟨by simp [denL, e1, e2], fun n => by simp [insideL, s1 n, s2 n]⟩
    cases v <;> simp only [ofVal] at h
    case iface t v =>
      obtain ⟨r, hr, rfl⟩ := Option.map_eq_some_iff.1 h
      obtain ⟨e, s⟩ := ofVal_den (ρ := ρ) (σ := σ) d v r hr
      exact ⟨by simp [SV.den, e], fun n => by simp [SV.inside, s n]⟩
    case bool | int | float | complex | string | nilFunc | nilIface => cases h; exact ⟨by simp [SV.den, BE.den, NE.den], fun _ => rfl⟩
    case pointer a => cases a <;> cases h; exact ⟨rfl, fun _ => rfl⟩
    case slice a n c => cases a <;> cases h; exact ⟨rfl, fun _ => rfl⟩
    case func fn f c =>
      split at h
      · rename_i hz
        cases h
        have e1 : f = #[] := Array.eq_empty_of_size_eq_zero hz.1
        have e2 : c = #[] := Array.eq_empty_of_size_eq_zero hz.2
        subst e1; subst e2
        exact ⟨rfl, fun _ => rfl⟩
      · cases h
    case agg c =>
      obtain ⟨r, hr, rfl⟩ := Option.map_eq_some_iff.1 h
      obtain ⟨e, s⟩ := key _ _ hr
      exact ⟨by simp [SV.den, e], fun n => by simp [SV.inside, s n]⟩
    case tuple c =>
      obtain ⟨r, hr, rfl⟩ := Option.map_eq_some_iff.1 h
      obtain ⟨e, s⟩ := key _ _ hr
      exact ⟨by simp [SV.den, e], fun n => by simp [SV.inside, s n]⟩
    all_goals cases h

/-- What looks at no world. -/
def pureRun (P : Program) {α : Type} : Sem α → Option α
  | .pure a => some a
  | .program k => pureRun P (k P)
  | .mark _ k => pureRun P k
  | _ => none
theorem pureRun_run {P : Program} {α : Type} : ∀ {s : Sem α} {a : α}, pureRun P s = some a → ∀ w, s.run P w = .ok a w := by
  intro s
  induction s with
  | pure a => intro b h w; cases h; rfl
  | program k ih => intro b h w; exact ih P h w
  | mark m k ih => intro b h w; exact ih h w
  | _ => intro b h; cases h
end Go.Proofs.Ytgdhpgjfebinhaa.Ev
