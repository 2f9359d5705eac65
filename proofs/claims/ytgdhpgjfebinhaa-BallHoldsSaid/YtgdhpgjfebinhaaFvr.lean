/- The symbolic machine's environments by their numbers, truths and rows. -/
import Derived.Test.YtgdhpgjfebinhaaFvt
namespace Go.Proofs.Ytgdhpgjfebinhaa.Ev
set_option linter.unusedSimpArgs false
open Go Go.RowKit
set_option linter.unusedVariables false
set_option linter.unusedSectionVars false
variable {P : Program}
variable {ds : List Deferred}

/-- Numbers, truths, rows. -/
structure Vs where
  L : List Int
  B : List Bool
  A : List (Int → Int)
structure Sz where
  n : Nat
  m : Nat
  q : Nat
  deriving DecidableEq, Inhabited
def Vs.add (V : Vs) (xs : List Int) (bs : List Bool) (rs : List (Int → Int)) : Vs := ⟨V.L ++ xs, V.B ++ bs, V.A ++ rs⟩
def Vs.sz (V : Vs) : Sz := ⟨V.L.length, V.B.length, V.A.length⟩
def Sz.add (z y : Sz) : Sz := ⟨z.n + y.n, z.m + y.m, z.q + y.q⟩
def Sz.le (z y : Sz) : Prop := z.n ≤ y.n ∧ z.m ≤ y.m ∧ z.q ≤ y.q
theorem Sz.le_refl (z : Sz) : z.le z := ⟨Nat.le_refl _, Nat.le_refl _, Nat.le_refl _⟩
theorem Sz.le_trans {x y z : Sz} (h : x.le y) (g : y.le z) : x.le z := ⟨Nat.le_trans h.1 g.1, Nat.le_trans h.2.1 g.2.1, Nat.le_trans h.2.2 g.2.2⟩
theorem Sz.le_add (z y : Sz) : z.le (z.add y) := ⟨Nat.le_add_right _ _, Nat.le_add_right _ _, Nat.le_add_right _ _⟩
theorem Vs.add_sz (V : Vs) (xs : List Int) (bs : List Bool) (rs : List (Int → Int)) : (V.add xs bs rs).sz = V.sz.add ⟨xs.length, bs.length, rs.length⟩ := by
  simp [Vs.add, Vs.sz, Sz.add]
def envV (V : Vs) : Env := ⟨fun i => V.L.getD i 0, fun i => V.B.getD i false, fun _ => .empty, fun _ => .nilFunc, fun i => V.A.getD i (fun _ => 0)⟩

def NE.bel (z : Sz) : NE → Bool
  | .lit _ => true
  | .var i => Nat.blt i z.n
  | .bin _ a b => a.bel z && b.bel z
  | .wrap _ a => a.bel z
  | .toF _ a => a.bel z
  | .fneg _ a => a.bel z
  | .fop _ _ a b => a.bel z && b.bel z
  | .sel a j => a.bel z && j.bel z
  | .avar i => Nat.blt i z.q
  | .aupd a j v => a.bel z && (j.bel z && v.bel z)
  | .acst v => v.bel z
  | .acat a n b => a.bel z && (n.bel z && b.bel z)
  | .aoff a d => a.bel z && d.bel z
def BE.bel (z : Sz) : BE → Bool
  | .lit _ => true
  | .var i => Nat.blt i z.m
  | .icmp _ a b => a.bel z && b.bel z
  | .fcmp _ _ a b => a.bel z && b.bel z
  | .not a => a.bel z
  | .and a b => a.bel z && b.bel z
  | .beq a b => a.bel z && b.bel z
mutual
def SV.bel (z : Sz) : SV → Bool
  | .bool b => b.bel z
  | .int _ e => e.bel z
  | .float _ e => e.bel z
  | .complex _ a b => a.bel z && b.bel z
  | .asl _ n => n.bel z
  | .eptr _ i _ _ => i.bel z
  | .yld _ => true
  | .vsl _ _ _ _ => true
  | .rsl _ _ l n => l.bel z && n.bel z
  | .strn e => e.bel z
  | .func _ f c => belL z f && belL z c
  | .iface _ v => v.bel z
  | .agg l => belL z l
  | .tuple l => belL z l
  | _ => true
def belL (z : Sz) : List SV → Bool
  | [] => true
  | v :: l => v.bel z && belL z l
end

/-- More of each. -/
structure Ext (V V' : Vs) : Prop where
  num : ∃ xs, V'.L = V.L ++ xs
  tru : ∃ bs, V'.B = V.B ++ bs
  row : ∃ rs, V'.A = V.A ++ rs
theorem Ext.refl (V : Vs) : Ext V V := ⟨⟨[], by simp⟩, ⟨[], by simp⟩, ⟨[], by simp⟩⟩
theorem Ext.add (V : Vs) (xs : List Int) (bs : List Bool) (rs : List (Int → Int)) : Ext V (V.add xs bs rs) := ⟨⟨xs, rfl⟩, ⟨bs, rfl⟩, ⟨rs, rfl⟩⟩
theorem Ext.n {V V' : Vs} (h : Ext V V') {i : Nat} (hi : i < V.L.length) : (envV V').n i = (envV V).n i := by
  obtain ⟨xs, e⟩ := h.num
  simp only [envV, e, List.getD_eq_getElem?_getD, List.getElem?_append_left hi]
theorem Ext.b {V V' : Vs} (h : Ext V V') {i : Nat} (hi : i < V.B.length) : (envV V').b i = (envV V).b i := by
  obtain ⟨xs, e⟩ := h.tru
  simp only [envV, e, List.getD_eq_getElem?_getD, List.getElem?_append_left hi]
theorem Ext.a {V V' : Vs} (h : Ext V V') {i : Nat} (hi : i < V.A.length) : (envV V').a i = (envV V).a i := by
  obtain ⟨xs, e⟩ := h.row
  simp only [envV, e, List.getD_eq_getElem?_getD, List.getElem?_append_left hi]
theorem Ext.le {V V' : Vs} (h : Ext V V') : V.sz.le V'.sz := by
  obtain ⟨xs, e1⟩ := h.num
  obtain ⟨bs, e2⟩ := h.tru
  obtain ⟨rs, e3⟩ := h.row
  unfold Vs.sz Sz.le
  rw [e1, e2, e3]; simp

section
variable {V V' : Vs} (hE : Ext V V')
include hE
mutual
theorem NE.ext : ∀ e : NE, e.bel V.sz = true → e.den (envV V') = e.den (envV V)
  | .lit _, _ => by simp [NE.den]
  | .var i, h => by simp only [NE.den]; exact hE.n (Nat.blt_eq.mp h)
  | .bin o a b, h => by simp only [NE.bel, Bool.and_eq_true] at h; simp only [NE.den, NE.ext a h.1, NE.ext b h.2]
  | .wrap k a, h => by simp only [NE.bel] at h; simp only [NE.den, NE.ext a h]
  | .toF k a, h => by simp only [NE.bel] at h; simp only [NE.den, NE.ext a h]
  | .fneg k a, h => by simp only [NE.bel] at h; simp only [NE.den, NE.ext a h]
  | .fop o k a b, h => by simp only [NE.bel, Bool.and_eq_true] at h; simp only [NE.den, NE.ext a h.1, NE.ext b h.2]
  | .sel a j, h => by simp only [NE.bel, Bool.and_eq_true] at h; simp only [NE.den, NE.exta a h.1, NE.ext j h.2]
  | .avar _, _ => by simp [NE.den]
  | .aupd _ _ _, _ => by simp [NE.den]
  | .acst _, _ => by simp [NE.den]
  | .acat _ _ _, _ => by simp [NE.den]
  | .aoff _ _, _ => by simp [NE.den]
theorem NE.exta : ∀ e : NE, e.bel V.sz = true → e.aden (envV V') = e.aden (envV V)
  | .avar i, h => by simp only [NE.aden]; exact hE.a (Nat.blt_eq.mp h)
  | .aupd a j v, h => by simp only [NE.bel, Bool.and_eq_true] at h; simp only [NE.aden, NE.exta a h.1, NE.ext j h.2.1, NE.ext v h.2.2]
  | .acst v, h => by simp only [NE.bel] at h; simp only [NE.aden, NE.ext v h]
  | .acat a n b, h => by simp only [NE.bel, Bool.and_eq_true] at h; simp only [NE.aden, NE.exta a h.1, NE.ext n h.2.1, NE.exta b h.2.2]
  | .aoff a d, h => by simp only [NE.bel, Bool.and_eq_true] at h; simp only [NE.aden, NE.exta a h.1, NE.ext d h.2]
  | .lit _, _ => by simp [NE.aden]
  | .var _, _ => by simp [NE.aden]
  | .bin _ _ _, _ => by simp [NE.aden]
  | .wrap _ _, _ => by simp [NE.aden]
  | .toF _ _, _ => by simp [NE.aden]
  | .fneg _ _, _ => by simp [NE.aden]
  | .fop _ _ _ _, _ => by simp [NE.aden]
  | .sel _ _, _ => by simp [NE.aden]
end
theorem BE.ext : ∀ e : BE, e.bel V.sz = true → e.den (envV V') = e.den (envV V)
  | .lit _, _ => rfl
  | .var i, h => hE.b (Nat.blt_eq.mp h)
  | .icmp o a b, h => by simp only [BE.bel, Bool.and_eq_true] at h; simp only [BE.den, NE.ext hE a h.1, NE.ext hE b h.2]
  | .fcmp k o a b, h => by simp only [BE.bel, Bool.and_eq_true] at h; simp only [BE.den, NE.ext hE a h.1, NE.ext hE b h.2]
  | .not a, h => by simp only [BE.bel] at h; simp only [BE.den, a.ext h]
  | .and a b, h => by simp only [BE.bel, Bool.and_eq_true] at h; simp only [BE.den, a.ext h.1, b.ext h.2]
  | .beq a b, h => by simp only [BE.bel, Bool.and_eq_true] at h; simp only [BE.den, a.ext h.1, b.ext h.2]
mutual
theorem SV.ext (σ : Sg) : ∀ v : SV, v.bel V.sz = true → v.den (envV V') σ = v.den (envV V) σ
  | .bool b, h => by simp only [SV.bel] at h; simp only [SV.den, BE.ext hE b h]
  | .int k e, h => by simp only [SV.bel] at h; simp only [SV.den, NE.ext hE e h]
  | .float k e, h => by simp only [SV.bel] at h; simp only [SV.den, NE.ext hE e h]
  | .complex k a b, h => by simp only [SV.bel, Bool.and_eq_true] at h; simp only [SV.den, NE.ext hE a h.1, NE.ext hE b h.2]
  | .asl _ n, h => by simp only [SV.bel] at h; simp only [SV.den, NE.ext hE n h]
  | .eptr _ i _ _, h => by simp only [SV.bel] at h; simp only [SV.den, NE.ext hE i h]
  | .yld _, h => by simp only [SV.den]
  | .vsl _ _ _ _, h => by simp only [SV.den]
  | .rsl _ _ l n, h => by simp only [SV.bel, Bool.and_eq_true] at h; simp only [SV.den, NE.ext hE l h.1, NE.ext hE n h.2]
  | .strn e, h => by simp only [SV.bel] at h; simp only [SV.den, NE.ext hE e h]
  | .func f a c, h => by simp only [SV.bel, Bool.and_eq_true] at h; simp only [SV.den, denL_ext σ a h.1, denL_ext σ c h.2]
  | .iface t v, h => by simp only [SV.bel] at h; simp only [SV.den, v.ext σ h]
  | .agg l, h => by simp only [SV.bel] at h; simp only [SV.den, denL_ext σ l h]
  | .tuple l, h => by simp only [SV.bel] at h; simp only [SV.den, denL_ext σ l h]
  | .str _, _ => rfl
  | .strv _, _ => rfl
  | .any _, _ => rfl
  | .ptr _, _ => rfl
  | .slice _ _ _, _ => rfl
  | .vec _ _, _ => rfl
  | .nilFunc, _ => rfl
  | .nilIface, _ => rfl
theorem denL_ext (σ : Sg) : ∀ l : List SV, belL V.sz l = true → denL (envV V') σ l = denL (envV V) σ l
  | [], _ => rfl
  | v :: l, h => by simp only [belL, Bool.and_eq_true] at h; simp only [denL, v.ext σ h.1, denL_ext σ l h.2]
end
theorem cellsV_ext (j : Int) : ∀ (s : List CK) (l : List NE), (l.all fun e => e.bel V.sz) = true → cellsV (envV V') j s l = cellsV (envV V) j s l
  | [], l, _ => by simp [cellsV]
  | k :: s, [], _ => by cases k <;> simp [cellsV]
  | .int k :: s, a :: l, h => by
    simp only [List.all_cons, Bool.and_eq_true] at h
    simp only [cellsV, NE.exta hE a h.1, cellsV_ext j s l h.2]
  | .float k :: s, a :: l, h => by
    simp only [List.all_cons, Bool.and_eq_true] at h
    simp only [cellsV, NE.exta hE a h.1, cellsV_ext j s l h.2]
  | .bool :: s, a :: l, h => by
    simp only [List.all_cons, Bool.and_eq_true] at h
    simp only [cellsV, NE.exta hE a h.1, cellsV_ext j s l h.2]
  | .str :: s, a :: l, h => by
    simp only [List.all_cons, Bool.and_eq_true] at h
    simp only [cellsV, NE.exta hE a h.1, cellsV_ext j s l h.2]
  | .complex k :: s, [a], _ => by simp [cellsV]
  | .complex k :: s, a :: b :: l, h => by
    simp only [List.all_cons, Bool.and_eq_true] at h
    simp only [cellsV, NE.exta hE a h.1, NE.exta hE b h.2.1, cellsV_ext j s l h.2.2]
end
def absBel (z : Sz) : Option Abs → Bool
  | none => true
  | some A => A.n.bel z && A.cols.all fun e => e.bel z
def blkBel (z : Sz) : Option Blk → Bool
  | some x => belL z x.cells && absBel z x.abs
  | none => true
def belH (z : Sz) : Hp → Bool
  | [] => true
  | x :: l => blkBel z x && belH z l
theorem belH_get {z : Sz} : ∀ {H : Hp} {b : Nat} {x : Blk}, belH z H = true → H[b]? = some (some x) → belL z x.cells = true ∧ absBel z x.abs = true
  | [], b, x, h, hb => by simp at hb
  | y :: l, 0, x, h, hb => by
    simp only [belH, Bool.and_eq_true] at h
    simp at hb; subst hb; simpa [blkBel] using h.1
  | y :: l, b + 1, x, h, hb => by
    simp only [belH, Bool.and_eq_true] at h
    exact belH_get h.2 (by simpa using hb)
theorem belL_mem {z : Sz} : ∀ {l : List SV}, belL z l = true → ∀ v ∈ l, v.bel z = true
  | [], _, _, h => by cases h
  | a :: l, h, v, hv => by
    simp only [belL, Bool.and_eq_true] at h
    rcases List.mem_cons.1 hv with rfl | hv
    · exact h.1
    · exact belL_mem h.2 v hv
/-- A block over more variables. -/
theorem SameBlk.ext {V V' : Vs} (hE : Ext V V') (σ : Sg) {x : Blk} (h : belL V.sz x.cells = true ∧ absBel V.sz x.abs = true) : SameBlk (envV V) (envV V') σ x x := by
  refine ⟨rfl, rfl, rfl, rfl, (fun _ => (denL_ext hE σ _ h.1).symm), (fun _ => ⟨id, fun t ht => ⟨ht, getD_den (denL_ext hE σ _ h.1).symm t⟩⟩), id, fun B hB => ?_⟩
  have h2 := h.2
  rw [hB] at h2
  simp only [absBel, Bool.and_eq_true] at h2
  exact ⟨B, hB, rfl, (NE.ext hE _ h2.1).symm, rfl, fun j s => (cellsV_ext hE j s _ h2.2).symm⟩
theorem SameBlk.symm {ρ ρ' : Env} {σ : Sg} {x : Blk} (h : SameBlk ρ ρ' σ x x) : SameBlk ρ' ρ σ x x := by
  refine ⟨rfl, rfl, rfl, rfl, (fun hn => (h.den hn).symm), (fun hn => ⟨id, fun t ht => ⟨ht, ((h.rcd hn).2 t ht).2.symm⟩⟩), id, fun B hB => ?_⟩
  obtain ⟨A, hA, _, h2, _, h4⟩ := h.some_ B hB
  rw [hB] at hA
  cases hA
  exact ⟨B, hB, rfl, h2.symm, rfl, fun j s => (h4 j s).symm⟩
theorem TRel.to {ρ ρ' : Env} {σ : Sg} {n : Nat} {T : List SV} {a : Act} (h : TRel ds ρ σ n T a) (he : ∀ v ∈ T, v.den ρ' σ = v.den ρ σ) : TRel ds ρ' σ n T a := by
  refine ⟨fun t ht => ?_, h.ins, h.size, h.defers⟩
  rw [h.val t ht]
  by_cases hl : t < T.length
  · rw [List.getD_eq_getElem?_getD, List.getElem?_eq_getElem hl]; exact (he _ (List.getElem_mem hl)).symm
  · rw [List.getD_eq_getElem?_getD, List.getElem?_eq_none (Nat.le_of_not_lt hl)]; rfl
theorem HRel.to {ρ ρ' : Env} {σ : Sg} {H : Hp} {w : World} (h : HRel P ρ σ H w) (he : ∀ (b : Nat) (x : Blk), H[b]? = some (some x) → SameBlk ρ ρ' σ x x) : HRel P ρ' σ H w :=
  ⟨fun b x hb => ⟨(h.blk b x hb).1, (he b x hb).at_ (h.blk b x hb).2⟩, h.inj⟩
section
variable {V V' : Vs} (hE : Ext V V')
include hE
theorem Ext.trel {σ : Sg} {n : Nat} {T : List SV} {a : Act} (hb : belL V.sz T = true) : TRel ds (envV V') σ n T a ↔ TRel ds (envV V) σ n T a :=
  ⟨fun h => h.to fun v hv => (SV.ext hE σ v (belL_mem hb v hv)).symm, fun h => h.to fun v hv => SV.ext hE σ v (belL_mem hb v hv)⟩
theorem Ext.hrel {σ : Sg} {H : Hp} {w : World} (hb : belH V.sz H = true) : HRel P (envV V') σ H w ↔ HRel P (envV V) σ H w :=
  ⟨fun h => h.to fun b x hx => (SameBlk.ext hE σ (belH_get hb hx)).symm, fun h => h.to fun b x hx => SameBlk.ext hE σ (belH_get hb hx)⟩
end
theorem blt_trans {i n n' : Nat} (h : Nat.blt i n = true) (hn : n ≤ n') : Nat.blt i n' = true := Nat.blt_eq.mpr (Nat.lt_of_lt_of_le (Nat.blt_eq.mp h) hn)
theorem NE.bel_mono {z z' : Sz} (hz : z.le z') : ∀ e : NE, e.bel z = true → e.bel z' = true
  | .lit _, _ => rfl
  | .var i, h => blt_trans h hz.1
  | .bin _ a b, h => by simp only [NE.bel, Bool.and_eq_true] at h ⊢; exact ⟨a.bel_mono hz h.1, b.bel_mono hz h.2⟩
  | .wrap _ a, h => by simp only [NE.bel] at h ⊢; exact a.bel_mono hz h
  | .toF _ a, h => by simp only [NE.bel] at h ⊢; exact a.bel_mono hz h
  | .fneg _ a, h => by simp only [NE.bel] at h ⊢; exact a.bel_mono hz h
  | .fop _ _ a b, h => by simp only [NE.bel, Bool.and_eq_true] at h ⊢; exact ⟨a.bel_mono hz h.1, b.bel_mono hz h.2⟩
  | .sel a b, h => by simp only [NE.bel, Bool.and_eq_true] at h ⊢; exact ⟨a.bel_mono hz h.1, b.bel_mono hz h.2⟩
  | .avar i, h => blt_trans h hz.2.2
  | .aupd a b c, h => by simp only [NE.bel, Bool.and_eq_true] at h ⊢; exact ⟨a.bel_mono hz h.1, b.bel_mono hz h.2.1, c.bel_mono hz h.2.2⟩
  | .acst a, h => by simp only [NE.bel] at h ⊢; exact a.bel_mono hz h
  | .acat a b c, h => by simp only [NE.bel, Bool.and_eq_true] at h ⊢; exact ⟨a.bel_mono hz h.1, b.bel_mono hz h.2.1, c.bel_mono hz h.2.2⟩
  | .aoff a b, h => by simp only [NE.bel, Bool.and_eq_true] at h ⊢; exact ⟨a.bel_mono hz h.1, b.bel_mono hz h.2⟩
theorem BE.bel_mono {z z' : Sz} (hz : z.le z') : ∀ e : BE, e.bel z = true → e.bel z' = true
  | .lit _, _ => rfl
  | .var i, h => blt_trans h hz.2.1
  | .icmp _ a b, h => by simp only [BE.bel, Bool.and_eq_true] at h ⊢; exact ⟨a.bel_mono hz h.1, b.bel_mono hz h.2⟩
  | .fcmp _ _ a b, h => by simp only [BE.bel, Bool.and_eq_true] at h ⊢; exact ⟨a.bel_mono hz h.1, b.bel_mono hz h.2⟩
  | .not a, h => by simp only [BE.bel] at h ⊢; exact a.bel_mono hz h
  | .and a b, h => by simp only [BE.bel, Bool.and_eq_true] at h ⊢; exact ⟨a.bel_mono hz h.1, b.bel_mono hz h.2⟩
  | .beq a b, h => by simp only [BE.bel, Bool.and_eq_true] at h ⊢; exact ⟨a.bel_mono hz h.1, b.bel_mono hz h.2⟩
mutual
theorem SV.bel_mono {z z' : Sz} (hz : z.le z') : ∀ v : SV, v.bel z = true → v.bel z' = true
  | .bool b, h => by simp only [SV.bel] at h ⊢; exact b.bel_mono hz h
  | .int k e, h => by simp only [SV.bel] at h ⊢; exact e.bel_mono hz h
  | .float k e, h => by simp only [SV.bel] at h ⊢; exact e.bel_mono hz h
  | .complex k a b, h => by simp only [SV.bel, Bool.and_eq_true] at h ⊢; exact ⟨a.bel_mono hz h.1, b.bel_mono hz h.2⟩
  | .asl _ e, h => by simp only [SV.bel] at h ⊢; exact e.bel_mono hz h
  | .eptr _ e _ _, h => by simp only [SV.bel] at h ⊢; exact e.bel_mono hz h
  | .yld _, h => by simp only [SV.bel]
  | .vsl _ _ _ _, h => by simp only [SV.bel]
  | .rsl _ _ l n, h => by simp only [SV.bel, Bool.and_eq_true] at h ⊢; exact ⟨l.bel_mono hz h.1, n.bel_mono hz h.2⟩
  | .strn e, h => by simp only [SV.bel] at h ⊢; exact e.bel_mono hz h
  | .func _ f c, h => by simp only [SV.bel, Bool.and_eq_true] at h ⊢; exact ⟨belL_mono hz f h.1, belL_mono hz c h.2⟩
  | .iface _ v, h => by simp only [SV.bel] at h ⊢; exact v.bel_mono hz h
  | .agg l, h => by simp only [SV.bel] at h ⊢; exact belL_mono hz l h
  | .tuple l, h => by simp only [SV.bel] at h ⊢; exact belL_mono hz l h
  | .str _, _ => rfl
  | .strv _, _ => rfl
  | .any _, _ => rfl
  | .ptr _, _ => rfl
  | .slice _ _ _, _ => rfl
  | .vec _ _, _ => rfl
  | .nilFunc, _ => rfl
  | .nilIface, _ => rfl
theorem belL_mono {z z' : Sz} (hz : z.le z') : ∀ l : List SV, belL z l = true → belL z' l = true
  | [], _ => rfl
  | v :: l, h => by simp only [belL, Bool.and_eq_true] at h ⊢; exact ⟨v.bel_mono hz h.1, belL_mono hz l h.2⟩
end
theorem absBel_mono {z z' : Sz} (hz : z.le z') : ∀ A : Option Abs, absBel z A = true → absBel z' A = true
  | none, _ => rfl
  | some A, h => by
    simp only [absBel, Bool.and_eq_true] at h ⊢
    exact ⟨A.n.bel_mono hz h.1, List.all_eq_true.2 fun e he => NE.bel_mono hz e (List.all_eq_true.1 h.2 e he)⟩
theorem belH_mono {z z' : Sz} (hz : z.le z') : ∀ H : Hp, belH z H = true → belH z' H = true
  | [], _ => rfl
  | none :: l, h => by simp only [belH, blkBel, Bool.true_and] at h ⊢; exact belH_mono hz l h
  | some x :: l, h => by simp only [belH, blkBel, Bool.and_eq_true] at h ⊢; exact ⟨⟨belL_mono hz _ h.1.1, absBel_mono hz _ h.1.2⟩, belH_mono hz l h.2⟩

/-- Numbers, truths and rows by their terms. -/
structure X3 where
  ns : List NE
  bs : List BE
  rs : List NE
  deriving Inhabited
def X3.sz (x : X3) : Sz := ⟨x.ns.length, x.bs.length, x.rs.length⟩
def X3.bel (z : Sz) (x : X3) : Bool := x.ns.all (fun e => e.bel z) && (x.bs.all (fun e => e.bel z) && x.rs.all fun e => e.bel z)
def denN (ρ : Env) (l : List NE) : List Int := l.map (·.den ρ)
def denB (ρ : Env) (l : List BE) : List Bool := l.map (·.den ρ)
def denA (ρ : Env) (l : List NE) : List (Int → Int) := l.map (·.aden ρ)
def NE.isA : NE → Bool
  | .avar _ => true
  | .aupd _ _ _ => true
  | .acst _ => true
  | .acat _ _ _ => true
  | .aoff _ _ => true
  | _ => false
theorem NE.isA_den {ρ : Env} {e : NE} (h : e.isA = true) : e.den ρ = 0 := by
  cases e <;> simp_all [NE.isA, NE.den]
theorem NE.isN_aden {ρ : Env} {e : NE} (h : e.isA = false) : e.aden ρ = fun _ => 0 := by
  cases e <;> simp_all [NE.isA, NE.aden]
def asN (e : NE) : NE := if e.isA then .lit 0 else e
def asA (e : NE) : NE := if e.isA then e else .acst (.lit 0)
theorem asN_den (ρ : Env) (e : NE) : (asN e).den ρ = e.den ρ := by
  unfold asN; split
  · rename_i h; rw [NE.isA_den h]; simp [NE.den]
  · rfl
theorem asN_aden (ρ : Env) (e : NE) : (asN e).aden ρ = fun _ => 0 := by
  unfold asN; split
  · simp [NE.aden]
  · rename_i h; exact NE.isN_aden (by simpa using h)
theorem asA_aden (ρ : Env) (e : NE) : (asA e).aden ρ = e.aden ρ := by
  unfold asA; split
  · rfl
  · rename_i h
    have := NE.isN_aden (ρ := ρ) (e := e) (by simpa using h)
    rw [this]; simp [NE.aden, NE.den]
theorem asA_den (ρ : Env) (e : NE) : (asA e).den ρ = 0 := by
  unfold asA; split
  · rename_i h; exact NE.isA_den h
  · simp [NE.den]
/-- Terms put in for the last variables. -/
def NE.sub (z : Sz) (x : X3) : NE → NE
  | .lit n => .lit n
  | .var i => if Nat.blt i z.n then .var i else asN (x.ns.getD (i - z.n) (.lit 0))
  | .bin o a b => .bin o (a.sub z x) (b.sub z x)
  | .wrap k a => .wrap k (a.sub z x)
  | .toF k a => .toF k (a.sub z x)
  | .fneg k a => .fneg k (a.sub z x)
  | .fop o k a b => .fop o k (a.sub z x) (b.sub z x)
  | .sel a j => .sel (a.sub z x) (j.sub z x)
  | .avar i => if Nat.blt i z.q then .avar i else asA (x.rs.getD (i - z.q) (.acst (.lit 0)))
  | .aupd a j v => .aupd (a.sub z x) (j.sub z x) (v.sub z x)
  | .acst v => .acst (v.sub z x)
  | .acat a n b => .acat (a.sub z x) (n.sub z x) (b.sub z x)
  | .aoff a d => .aoff (a.sub z x) (d.sub z x)
def BE.sub (z : Sz) (x : X3) : BE → BE
  | .lit n => .lit n
  | .var i => if Nat.blt i z.m then .var i else x.bs.getD (i - z.m) (.lit false)
  | .icmp o a b => .icmp o (a.sub z x) (b.sub z x)
  | .fcmp k o a b => .fcmp k o (a.sub z x) (b.sub z x)
  | .not a => .not (a.sub z x)
  | .and a b => .and (a.sub z x) (b.sub z x)
  | .beq a b => .beq (a.sub z x) (b.sub z x)
/-- The first ones, and other ones behind. -/
def Vs.cut (V : Vs) (z : Sz) (xs : List Int) (bs : List Bool) (rs : List (Int → Int)) : Vs := ⟨V.L.take z.n ++ xs, V.B.take z.m ++ bs, V.A.take z.q ++ rs⟩
def Vs.put (V : Vs) (z : Sz) (x : X3) : Vs := V.cut z (denN (envV V) x.ns) (denB (envV V) x.bs) (denA (envV V) x.rs)
theorem getD_take_append {α : Type} (L ys : List α) (d : α) (n i : Nat) (hn : n ≤ L.length) : (L.take n ++ ys).getD i d = if i < n then L.getD i d else ys.getD (i - n) d := by
  simp only [List.getD_eq_getElem?_getD, List.getElem?_append, List.length_take, Nat.min_eq_left hn, List.getElem?_take]
  split <;> simp_all
section
variable {V : Vs} {z : Sz} (hz : z.le V.sz) (x : X3)
include hz
mutual
theorem NE.sub_den : ∀ e : NE, (e.sub z x).den (envV V) = e.den (envV (V.put z x))
  | .lit _ => by simp [NE.sub, NE.den]
  | .var i => by
    simp only [NE.sub, NE.den, envV, Vs.put, Vs.cut]
    rw [getD_take_append _ _ _ _ _ hz.1]
    split
    · rename_i h; rw [if_pos (Nat.blt_eq.mp h)]; simp [NE.den]
    · rename_i h
      rw [if_neg (fun h' => h (Nat.blt_eq.mpr h'))]
      rw [asN_den]
      simp only [denN, List.getD_eq_getElem?_getD, List.getElem?_map]
      cases x.ns[i - z.n]? <;> simp [NE.den, envV]
  | .bin o a b => by simp only [NE.sub, NE.den, NE.sub_den a, NE.sub_den b]
  | .wrap k a => by simp only [NE.sub, NE.den, NE.sub_den a]
  | .toF k a => by simp only [NE.sub, NE.den, NE.sub_den a]
  | .fneg k a => by simp only [NE.sub, NE.den, NE.sub_den a]
  | .fop o k a b => by simp only [NE.sub, NE.den, NE.sub_den a, NE.sub_den b]
  | .sel a j => by simp only [NE.sub, NE.den, NE.sub_aden a, NE.sub_den j]
  | .avar i => by
    simp only [NE.sub, NE.den]
    split
    · simp [NE.den]
    · rw [asA_den]
  | .aupd a j v => by simp only [NE.sub, NE.den]
  | .acst v => by simp only [NE.sub, NE.den]
  | .acat a n b => by simp only [NE.sub, NE.den]
  | .aoff a d => by simp only [NE.sub, NE.den]
theorem NE.sub_aden : ∀ e : NE, (e.sub z x).aden (envV V) = e.aden (envV (V.put z x))
  | .avar i => by
    simp only [NE.sub, NE.aden, envV, Vs.put, Vs.cut]
    rw [getD_take_append _ _ _ _ _ hz.2.2]
    split
    · rename_i h; rw [if_pos (Nat.blt_eq.mp h)]; simp [NE.aden]
    · rename_i h
      rw [if_neg (fun h' => h (Nat.blt_eq.mpr h'))]
      rw [asA_aden]
      simp only [denA, List.getD_eq_getElem?_getD, List.getElem?_map]
      cases x.rs[i - z.q]? <;> simp [NE.aden, NE.den, envV]
  | .aupd a j v => by simp only [NE.sub, NE.aden, NE.sub_aden a, NE.sub_den j, NE.sub_den v]
  | .acst v => by simp only [NE.sub, NE.aden, NE.sub_den v]
  | .acat a n b => by simp only [NE.sub, NE.aden, NE.sub_aden a, NE.sub_den n, NE.sub_aden b]
  | .aoff a d => by simp only [NE.sub, NE.aden, NE.sub_aden a, NE.sub_den d]
  | .lit _ => by simp [NE.sub, NE.aden]
  | .var i => by
    simp only [NE.sub, NE.aden]
    split
    · simp [NE.aden]
    · rw [asN_aden]
  | .bin _ _ _ => by simp [NE.sub, NE.aden]
  | .wrap _ _ => by simp [NE.sub, NE.aden]
  | .toF _ _ => by simp [NE.sub, NE.aden]
  | .fneg _ _ => by simp [NE.sub, NE.aden]
  | .fop _ _ _ _ => by simp [NE.sub, NE.aden]
  | .sel _ _ => by simp [NE.sub, NE.aden]
end
theorem BE.sub_den : ∀ e : BE, (e.sub z x).den (envV V) = e.den (envV (V.put z x))
  | .lit _ => rfl
  | .var i => by
    simp only [BE.sub, BE.den, envV, Vs.put, Vs.cut]
    rw [getD_take_append _ _ _ _ _ hz.2.1]
    split
    · rename_i h; rw [if_pos (Nat.blt_eq.mp h)]; rfl
    · rename_i h
      rw [if_neg (fun h' => h (Nat.blt_eq.mpr h'))]
      simp only [denB, List.getD_eq_getElem?_getD, List.getElem?_map]
      cases x.bs[i - z.m]? <;> rfl
  | .icmp o a b => by simp only [BE.sub, BE.den, NE.sub_den hz x a, NE.sub_den hz x b]
  | .fcmp k o a b => by simp only [BE.sub, BE.den, NE.sub_den hz x a, NE.sub_den hz x b]
  | .not a => by simp only [BE.sub, BE.den, BE.sub_den a]
  | .and a b => by simp only [BE.sub, BE.den, BE.sub_den a, BE.sub_den b]
  | .beq a b => by simp only [BE.sub, BE.den, BE.sub_den a, BE.sub_den b]
end
def prSub (z : Sz) (x : X3) : Pr → Bool
  | .num a b => decide (a = b.sub z x)
  | .tru a b => decide (a = b.sub z x)
  | .txt i j => Nat.beq i j
  | .arr a b => decide (a = b.sub z x)
theorem prSub_ok {V : Vs} {z : Sz} (hz : z.le V.sz) {x : X3} {l : List Pr} (h : l.all (prSub z x) = true) : All (envV V) (envV (V.put z x)) l := by
  intro p hp
  have := List.all_eq_true.1 h p hp
  cases p with
  | num a b =>
    simp only [prSub, decide_eq_true_eq] at this
    simp only [Pr.holds, this]; exact NE.sub_den hz x b
  | tru a b =>
    simp only [prSub, decide_eq_true_eq] at this
    simp only [Pr.holds, this]; exact BE.sub_den hz x b
  | arr a b =>
    simp only [prSub, decide_eq_true_eq] at this
    simp only [Pr.holds, this]; exact NE.sub_aden hz x b
  | txt i j =>
    simp only [prSub] at this
    have := Nat.eq_of_beq_eq_true this
    subst this; rfl
end Go.Proofs.Ytgdhpgjfebinhaa.Ev
