/- The symbolic machine's trees: all ways through a function in one theorem. -/
import Derived.Test.YtipcoahafdolcaaEvt
namespace Go.Proofs.Ytipcoahafdolcaa.Ev
set_option linter.unusedSimpArgs false
open Go Go.RowKit
set_option linter.unusedVariables false
set_option linter.unusedSectionVars false
variable {P : Program}

/-- An environment by its numbers and truths. -/
def envL (L : List Int) (B : List Bool) : Env := ⟨fun i => L.getD i 0, fun i => B.getD i false, fun _ => .empty, fun _ => .nilFunc⟩

def NE.bel (n : Nat) : NE → Bool
  | .lit _ => true
  | .var i => Nat.blt i n
  | .bin _ a b => a.bel n && b.bel n
  | .wrap _ a => a.bel n
  | .toF _ a => a.bel n
  | .fneg _ a => a.bel n
  | .fop _ _ a b => a.bel n && b.bel n
def BE.bel (n m : Nat) : BE → Bool
  | .lit _ => true
  | .var i => Nat.blt i m
  | .icmp _ a b => a.bel n && b.bel n
  | .fcmp _ _ a b => a.bel n && b.bel n
  | .not a => a.bel n m
  | .and a b => a.bel n m && b.bel n m
  | .beq a b => a.bel n m && b.bel n m
mutual
def SV.bel (n m : Nat) : SV → Bool
  | .bool b => b.bel n m
  | .int _ e => e.bel n
  | .float _ e => e.bel n
  | .complex _ a b => a.bel n && b.bel n
  | .func _ f c => belL n m f && belL n m c
  | .iface _ v => v.bel n m
  | .agg l => belL n m l
  | .tuple l => belL n m l
  | _ => true
def belL (n m : Nat) : List SV → Bool
  | [] => true
  | v :: l => v.bel n m && belL n m l
end

structure Ext (L : List Int) (B : List Bool) (L' : List Int) (B' : List Bool) : Prop where
  num : ∃ xs, L' = L ++ xs
  tru : ∃ bs, B' = B ++ bs
theorem Ext.refl (L : List Int) (B : List Bool) : Ext L B L B := ⟨⟨[], by simp⟩, ⟨[], by simp⟩⟩
theorem Ext.n {L L' : List Int} {B B' : List Bool} (h : Ext L B L' B') {i : Nat} (hi : i < L.length) : (envL L' B').n i = (envL L B).n i := by
  obtain ⟨xs, rfl⟩ := h.num
  simp only [envL, List.getD_eq_getElem?_getD, List.getElem?_append_left hi]
theorem Ext.b {L L' : List Int} {B B' : List Bool} (h : Ext L B L' B') {i : Nat} (hi : i < B.length) : (envL L' B').b i = (envL L B).b i := by
  obtain ⟨xs, rfl⟩ := h.tru
  simp only [envL, List.getD_eq_getElem?_getD, List.getElem?_append_left hi]
theorem Ext.len {L L' : List Int} {B B' : List Bool} (h : Ext L B L' B') : L.length ≤ L'.length ∧ B.length ≤ B'.length := by
  obtain ⟨xs, rfl⟩ := h.num
  obtain ⟨bs, rfl⟩ := h.tru
  simp

section
variable {L L' : List Int} {B B' : List Bool} (hE : Ext L B L' B')
include hE
theorem NE.ext : ∀ e : NE, e.bel L.length = true → e.den (envL L' B') = e.den (envL L B)
  | .lit _, _ => rfl
  | .var i, h => hE.n (Nat.blt_eq.mp h)
  | .bin o a b, h => by simp only [NE.bel, Bool.and_eq_true] at h; simp only [NE.den, a.ext h.1, b.ext h.2]
  | .wrap k a, h => by simp only [NE.bel] at h; simp only [NE.den, a.ext h]
  | .toF k a, h => by simp only [NE.bel] at h; simp only [NE.den, a.ext h]
  | .fneg k a, h => by simp only [NE.bel] at h; simp only [NE.den, a.ext h]
  | .fop o k a b, h => by simp only [NE.bel, Bool.and_eq_true] at h; simp only [NE.den, a.ext h.1, b.ext h.2]
theorem BE.ext : ∀ e : BE, e.bel L.length B.length = true → e.den (envL L' B') = e.den (envL L B)
  | .lit _, _ => rfl
  | .var i, h => hE.b (Nat.blt_eq.mp h)
  | .icmp o a b, h => by simp only [BE.bel, Bool.and_eq_true] at h; simp only [BE.den, NE.ext hE a h.1, NE.ext hE b h.2]
  | .fcmp k o a b, h => by simp only [BE.bel, Bool.and_eq_true] at h; simp only [BE.den, NE.ext hE a h.1, NE.ext hE b h.2]
  | .not a, h => by simp only [BE.bel] at h; simp only [BE.den, a.ext h]
  | .and a b, h => by simp only [BE.bel, Bool.and_eq_true] at h; simp only [BE.den, a.ext h.1, b.ext h.2]
  | .beq a b, h => by simp only [BE.bel, Bool.and_eq_true] at h; simp only [BE.den, a.ext h.1, b.ext h.2]
mutual
theorem SV.ext (σ : Sg) : ∀ v : SV, v.bel L.length B.length = true → v.den (envL L' B') σ = v.den (envL L B) σ
  | .bool b, h => by simp only [SV.bel] at h; simp only [SV.den, BE.ext hE b h]
  | .int k e, h => by simp only [SV.bel] at h; simp only [SV.den, NE.ext hE e h]
  | .float k e, h => by simp only [SV.bel] at h; simp only [SV.den, NE.ext hE e h]
  | .complex k a b, h => by simp only [SV.bel, Bool.and_eq_true] at h; simp only [SV.den, NE.ext hE a h.1, NE.ext hE b h.2]
  | .func f a c, h => by simp only [SV.bel, Bool.and_eq_true] at h; simp only [SV.den, denL_ext σ a h.1, denL_ext σ c h.2]
  | .iface t v, h => by simp only [SV.bel] at h; simp only [SV.den, v.ext σ h]
  | .agg l, h => by simp only [SV.bel] at h; simp only [SV.den, denL_ext σ l h]
  | .tuple l, h => by simp only [SV.bel] at h; simp only [SV.den, denL_ext σ l h]
  | .str _, _ => rfl
  | .strv _, _ => rfl
  | .any _, _ => rfl
  | .ptr _, _ => rfl
  | .slice _ _ _, _ => rfl
  | .vec _ _, _ => rfl
  | .nilFunc, _ => rfl
  | .nilIface, _ => rfl
theorem denL_ext (σ : Sg) : ∀ l : List SV, belL L.length B.length l = true → denL (envL L' B') σ l = denL (envL L B) σ l
  | [], _ => rfl
  | v :: l, h => by simp only [belL, Bool.and_eq_true] at h; simp only [denL, v.ext σ h.1, denL_ext σ l h.2]
end
end


theorem SV.bel_any (n m : Nat) (v : SV) (h : v.bel n m = true) : v.bel n m = true := h
def blkBel (n m : Nat) : Option Blk → Bool
  | some x => belL n m x.cells
  | none => true
def belH (n m : Nat) : Hp → Bool
  | [] => true
  | x :: l => blkBel n m x && belH n m l
theorem belH_get {n m : Nat} : ∀ {H : Hp} {b : Nat} {x : Blk}, belH n m H = true → H[b]? = some (some x) → belL n m x.cells = true
  | [], b, x, h, hb => by simp at hb
  | y :: l, 0, x, h, hb => by
    simp only [belH, Bool.and_eq_true] at h
    simp at hb; subst hb; exact h.1
  | y :: l, b + 1, x, h, hb => by
    simp only [belH, Bool.and_eq_true] at h
    exact belH_get h.2 (by simpa using hb)
theorem belL_mem {n m : Nat} : ∀ {l : List SV}, belL n m l = true → ∀ v ∈ l, v.bel n m = true
  | [], _, _, h => by cases h
  | a :: l, h, v, hv => by
    simp only [belL, Bool.and_eq_true] at h
    rcases List.mem_cons.1 hv with rfl | hv
    · exact h.1
    · exact belL_mem h.2 v hv
theorem TRel.to {ρ ρ' : Env} {σ : Sg} {n : Nat} {T : List SV} {a : Act} (h : TRel ρ σ n T a) (he : ∀ v ∈ T, v.den ρ' σ = v.den ρ σ) : TRel ρ' σ n T a := by
  refine ⟨fun t ht => ?_, h.ins, h.size, h.defers⟩
  rw [h.val t ht]
  by_cases hl : t < T.length
  · rw [List.getD_eq_getElem?_getD, List.getElem?_eq_getElem hl]; exact (he _ (List.getElem_mem hl)).symm
  · rw [List.getD_eq_getElem?_getD, List.getElem?_eq_none (Nat.le_of_not_lt hl)]; rfl
theorem HRel.to {ρ ρ' : Env} {σ : Sg} {H : Hp} {w : World} (h : HRel P ρ σ H w) (he : ∀ (b : Nat) (x : Blk), H[b]? = some (some x) → denL ρ' σ x.cells = denL ρ σ x.cells) : HRel P ρ' σ H w := by
  refine ⟨fun b x hb => ?_, h.inj⟩
  rw [he b x hb]; exact h.blk b x hb

/-- What is known on a way. -/
structure LoopN where
  g : FuncId
  p : List Nat
  T0 : List SV
  H0 : Hp
  T : List SV
  H : Hp
  W : List Nat
  k : Nat
  m : Nat
  init : List NE
  initB : List BE
  deriving Inhabited
structure Ctx where
  bits : List (BE × Bool) := []
  calls : List ((FuncId × List SV) × SV) := []
  dom : Dom := {}
  loops : List LoopF := []
  cur : Option LoopN := none
def Ctx.facts (S : Facts) (c : Ctx) : Facts := { S with bits := c.bits, calls := c.calls, dom := c.dom }
structure Ctx.Holds (P : Program) (ρ : Env) (c : Ctx) : Prop where
  bits : ∀ p ∈ c.bits, p.1.den ρ = p.2
  calls : ∀ p ∈ c.calls, ∀ w, Calls P p.1.1 (denL ρ σ0 p.1.2).toArray w fun e w' => e = .returned (p.2.den ρ σ0) ∧ Below w.heap.size w w'
  dom : c.dom.Holds ρ
  loops : ∀ l ∈ c.loops, l.Ok P ρ
theorem Ctx.facts_ok {S : Facts} {c : Ctx} {ρ : Env} (hS : S.Holds P ρ) (h : c.Holds P ρ) : (c.facts S).Holds P ρ :=
  ⟨hS.eqs, h.bits, hS.fl, hS.f2i, h.calls, hS.sums, hS.exts, hS.extS, h.dom⟩
def belF (n m : Nat) (l : LoopF) : Bool := belL n m l.T && (belH n m l.H && (belL n m l.r.2.1 && belH n m l.r.2.2.1))
structure Ctx.Bel (n m : Nat) (c : Ctx) : Prop where
  bits : ∀ p ∈ c.bits, p.1.bel n m = true
  calls : ∀ p ∈ c.calls, belL n m p.1.2 = true ∧ p.2.bel n m = true
  ivs : ∀ p ∈ c.dom.ivs, p.1 < n
  whs : ∀ p ∈ c.dom.whs, p.1 < n ∧ p.2.1.bel n = true
  loops : ∀ l ∈ c.loops, belF n m l = true
section
variable {L L' : List Int} {B B' : List Bool} (hE : Ext L B L' B')
include hE
theorem Ext.trel {σ : Sg} {n : Nat} {T : List SV} {a : Act} (hb : belL L.length B.length T = true) : TRel (envL L' B') σ n T a ↔ TRel (envL L B) σ n T a :=
  ⟨fun h => h.to fun v hv => (SV.ext hE σ v (belL_mem hb v hv)).symm, fun h => h.to fun v hv => SV.ext hE σ v (belL_mem hb v hv)⟩
theorem Ext.hrel {σ : Sg} {H : Hp} {w : World} (hb : belH L.length B.length H = true) : HRel P (envL L' B') σ H w ↔ HRel P (envL L B) σ H w :=
  ⟨fun h => h.to fun b x hx => (denL_ext hE σ _ (belH_get hb hx)).symm, fun h => h.to fun b x hx => denL_ext hE σ _ (belH_get hb hx)⟩
theorem Post.rel_to {ρ ρ' : Env} {σ σ' : Sg} {H H' : Hp} {W : List Nat} {w w' : World} (h : Post P ρ σ σ' H H' W w w') (hr : HRel P ρ' σ' H' w') : Post P ρ' σ σ' H H' W w w' :=
  ⟨h.ext, h.len, hr, h.new, h.os, h.tape, h.out, h.size, h.frame, h.kept⟩
theorem LoopF.Ok.ext {l : LoopF} (hb : belF L.length B.length l = true) (h : l.Ok P (envL L B)) : l.Ok P (envL L' B') := by
  simp only [belF, Bool.and_eq_true] at hb
  obtain ⟨h1, h2, h3, h4⟩ := hb
  intro x hx σ a w Q hT hr hQ
  exact h x hx σ a w Q ((hE.trel h1).1 hT) ((hE.hrel h2).1 hr) fun σ' a' w' hp hT' => hQ σ' a' w' (Post.rel_to hE hp ((hE.hrel h4).2 hp.rel)) ((hE.trel h3).2 hT')
/-- A walk from the smaller environment. -/
theorem Leads2.back {ρ' : Env} {c : Code} {T : List SV} {H : Hp} {r : Res} (h1 : belL L.length B.length T = true) (h2 : belH L.length B.length H = true) (h : Leads2 P (envL L' B') ρ' c T H r) : Leads2 P (envL L B) ρ' c T H r :=
  fun σ a w Q hT hr hQ => h σ a w Q ((hE.trel h1).2 hT) ((hE.hrel h2).2 hr) hQ
end
theorem Ctx.Holds.ext {c : Ctx} {L L' : List Int} {B B' : List Bool} (h : c.Holds P (envL L B)) (hE : Ext L B L' B') (hb : c.Bel L.length B.length) : c.Holds P (envL L' B') := by
  refine ⟨fun p hp => ?_, fun p hp w => ?_, ⟨fun p hp => ?_, fun p hp => ?_⟩, fun l hl => (h.loops l hl).ext hE (hb.loops l hl)⟩
  · rw [BE.ext hE _ (hb.bits p hp)]; exact h.bits p hp
  · rw [denL_ext hE _ _ (hb.calls p hp).1, SV.ext hE _ _ (hb.calls p hp).2]; exact h.calls p hp w
  · rw [hE.n (hb.ivs p hp)]; exact h.dom.ivs p hp
  · rw [hE.n (hb.whs p hp).1, NE.ext hE _ (hb.whs p hp).2]; exact h.dom.whs p hp
theorem blt_trans {i n n' : Nat} (h : Nat.blt i n = true) (hn : n ≤ n') : Nat.blt i n' = true := Nat.blt_eq.mpr (Nat.lt_of_lt_of_le (Nat.blt_eq.mp h) hn)
theorem NE.bel_mono {n n' : Nat} (hn : n ≤ n') : ∀ e : NE, e.bel n = true → e.bel n' = true
  | .lit _, _ => rfl
  | .var i, h => blt_trans h hn
  | .bin _ a b, h => by simp only [NE.bel, Bool.and_eq_true] at h ⊢; exact ⟨a.bel_mono hn h.1, b.bel_mono hn h.2⟩
  | .wrap _ a, h => by simp only [NE.bel] at h ⊢; exact a.bel_mono hn h
  | .toF _ a, h => by simp only [NE.bel] at h ⊢; exact a.bel_mono hn h
  | .fneg _ a, h => by simp only [NE.bel] at h ⊢; exact a.bel_mono hn h
  | .fop _ _ a b, h => by simp only [NE.bel, Bool.and_eq_true] at h ⊢; exact ⟨a.bel_mono hn h.1, b.bel_mono hn h.2⟩
theorem BE.bel_mono {n n' m m' : Nat} (hn : n ≤ n') (hm : m ≤ m') : ∀ e : BE, e.bel n m = true → e.bel n' m' = true
  | .lit _, _ => rfl
  | .var i, h => blt_trans h hm
  | .icmp _ a b, h => by simp only [BE.bel, Bool.and_eq_true] at h ⊢; exact ⟨a.bel_mono hn h.1, b.bel_mono hn h.2⟩
  | .fcmp _ _ a b, h => by simp only [BE.bel, Bool.and_eq_true] at h ⊢; exact ⟨a.bel_mono hn h.1, b.bel_mono hn h.2⟩
  | .not a, h => by simp only [BE.bel] at h ⊢; exact a.bel_mono hn hm h
  | .and a b, h => by simp only [BE.bel, Bool.and_eq_true] at h ⊢; exact ⟨a.bel_mono hn hm h.1, b.bel_mono hn hm h.2⟩
  | .beq a b, h => by simp only [BE.bel, Bool.and_eq_true] at h ⊢; exact ⟨a.bel_mono hn hm h.1, b.bel_mono hn hm h.2⟩
mutual
theorem SV.bel_mono {n n' m m' : Nat} (hn : n ≤ n') (hm : m ≤ m') : ∀ v : SV, v.bel n m = true → v.bel n' m' = true
  | .bool b, h => by simp only [SV.bel] at h ⊢; exact b.bel_mono hn hm h
  | .int k e, h => by simp only [SV.bel] at h ⊢; exact e.bel_mono hn h
  | .float k e, h => by simp only [SV.bel] at h ⊢; exact e.bel_mono hn h
  | .complex k a b, h => by simp only [SV.bel, Bool.and_eq_true] at h ⊢; exact ⟨a.bel_mono hn h.1, b.bel_mono hn h.2⟩
  | .func f a c, h => by simp only [SV.bel, Bool.and_eq_true] at h ⊢; exact ⟨belL_mono hn hm a h.1, belL_mono hn hm c h.2⟩
  | .iface t v, h => by simp only [SV.bel] at h ⊢; exact v.bel_mono hn hm h
  | .agg l, h => by simp only [SV.bel] at h ⊢; exact belL_mono hn hm l h
  | .tuple l, h => by simp only [SV.bel] at h ⊢; exact belL_mono hn hm l h
  | .str _, _ => rfl
  | .strv _, _ => rfl
  | .any _, _ => rfl
  | .ptr _, _ => rfl
  | .slice _ _ _, _ => rfl
  | .vec _ _, _ => rfl
  | .nilFunc, _ => rfl
  | .nilIface, _ => rfl
theorem belL_mono {n n' m m' : Nat} (hn : n ≤ n') (hm : m ≤ m') : ∀ l : List SV, belL n m l = true → belL n' m' l = true
  | [], _ => rfl
  | v :: l, h => by simp only [belL, Bool.and_eq_true] at h ⊢; exact ⟨v.bel_mono hn hm h.1, belL_mono hn hm l h.2⟩
end
theorem belH_mono {n n' m m' : Nat} (hn : n ≤ n') (hm : m ≤ m') : ∀ H : Hp, belH n m H = true → belH n' m' H = true
  | [], _ => rfl
  | none :: l, h => by simp only [belH, blkBel, Bool.true_and] at h ⊢; exact belH_mono hn hm l h
  | some x :: l, h => by simp only [belH, blkBel, Bool.and_eq_true] at h ⊢; exact ⟨belL_mono hn hm _ h.1, belH_mono hn hm l h.2⟩
theorem belF_mono {n n' m m' : Nat} (hn : n ≤ n') (hm : m ≤ m') (l : LoopF) (h : belF n m l = true) : belF n' m' l = true := by
  simp only [belF, Bool.and_eq_true] at h ⊢
  exact ⟨belL_mono hn hm _ h.1, belH_mono hn hm _ h.2.1, belL_mono hn hm _ h.2.2.1, belH_mono hn hm _ h.2.2.2⟩
theorem Ctx.Bel.mono {c : Ctx} {n n' m m' : Nat} (h : c.Bel n m) (hn : n ≤ n') (hm : m ≤ m') : c.Bel n' m' :=
  ⟨fun p hp => BE.bel_mono hn hm _ (h.bits p hp), fun p hp => ⟨belL_mono hn hm _ (h.calls p hp).1, SV.bel_mono hn hm _ (h.calls p hp).2⟩, fun p hp => Nat.lt_of_lt_of_le (h.ivs p hp) hn, fun p hp => ⟨Nat.lt_of_lt_of_le (h.whs p hp).1 hn, NE.bel_mono hn _ (h.whs p hp).2⟩, fun l hl => belF_mono hn hm l (h.loops l hl)⟩

/-- A range more. -/
def Dom.addR (D : Dom) (i : Nat) (lo hi : Int) : Dom := { D with ivs := (match findN D.ivs i with
  | some r => (i, max r.1 lo, min r.2 hi)
  | none => (i, lo, hi)) :: D.ivs }
theorem Dom.addR_ok {D : Dom} {ρ : Env} (h : D.Holds ρ) {i : Nat} {lo hi : Int} (h1 : lo ≤ ρ.n i) (h2 : ρ.n i ≤ hi) : (D.addR i lo hi).Holds ρ := by
  refine ⟨fun p hp => ?_, h.whs⟩
  simp only [Dom.addR] at hp
  rcases List.mem_cons.1 hp with rfl | hp
  · split
    · rename_i r hr
      have := h.ivs _ (findN_mem hr)
      simp only at this ⊢; omega
    · exact ⟨h1, h2⟩
  · exact h.ivs p hp
/-- What a truth tells of a variable's range. -/
def refine_ (D : Dom) (b : BE) (v : Bool) : Dom := match b, v with
  | .icmp .leq (.lit l) (.var i), true => (match findN D.ivs i with | some r => D.addR i l r.2 | none => D)
  | .icmp .leq (.lit l) (.var i), false => (match findN D.ivs i with | some r => D.addR i r.1 (l - 1) | none => D)
  | .icmp .leq (.var i) (.lit l), true => (match findN D.ivs i with | some r => D.addR i r.1 l | none => D)
  | .icmp .leq (.var i) (.lit l), false => (match findN D.ivs i with | some r => D.addR i (l + 1) r.2 | none => D)
  | .icmp .eql (.var i) (.lit l), true => D.addR i l l
  | .icmp .eql (.lit l) (.var i), true => D.addR i l l
  | .icmp .eql (.var i) (.lit l), false => (match findN D.ivs i with | some r => if r.1 = l then D.addR i (l + 1) r.2 else if r.2 = l then D.addR i r.1 (l - 1) else D | none => D)
  | _, _ => D
theorem refine_ok {D : Dom} {ρ : Env} (h : D.Holds ρ) {b : BE} {v : Bool} (hb : b.den ρ = v) : (refine_ D b v).Holds ρ := by
  unfold refine_
  split
  · have h1 := of_decide_eq_true hb
    simp only [NE.den] at h1
    split
    · rename_i r hr; exact Dom.addR_ok h h1 (h.ivs _ (findN_mem hr)).2
    · exact h
  · have h1 := of_decide_eq_false hb
    simp only [NE.den] at h1
    split
    · rename_i r hr; exact Dom.addR_ok h (h.ivs _ (findN_mem hr)).1 (by omega)
    · exact h
  · have h1 := of_decide_eq_true hb
    simp only [NE.den] at h1
    split
    · rename_i r hr; exact Dom.addR_ok h (h.ivs _ (findN_mem hr)).1 h1
    · exact h
  · have h1 := of_decide_eq_false hb
    simp only [NE.den] at h1
    split
    · rename_i r hr; exact Dom.addR_ok h (by omega) (h.ivs _ (findN_mem hr)).2
    · exact h
  · simp only [BE.den, COp.int, NE.den, beq_iff_eq] at hb
    exact Dom.addR_ok h (by omega) (by omega)
  · simp only [BE.den, COp.int, NE.den, beq_iff_eq] at hb
    exact Dom.addR_ok h (by omega) (by omega)
  · simp only [BE.den, COp.int, NE.den, beq_eq_false_iff_ne] at hb
    split
    · rename_i r hr
      have := h.ivs _ (findN_mem hr)
      simp only at this
      split
      · exact Dom.addR_ok h (by omega) this.2
      · split
        · exact Dom.addR_ok h this.1 (by omega)
        · exact h
    · exact h
  · exact h
theorem addR_bel {D : Dom} {i n : Nat} {lo up : Int} (h : ∀ p ∈ D.ivs, p.1 < n) (hi : i < n) : ∀ p ∈ (D.addR i lo up).ivs, p.1 < n := by
  intro p hp
  simp only [Dom.addR] at hp
  rcases List.mem_cons.1 hp with rfl | hp
  · split <;> exact hi
  · exact h p hp
theorem refine_whs (D : Dom) (b : BE) (v : Bool) : (refine_ D b v).whs = D.whs := by
  unfold refine_
  split <;> (try split) <;> (try split) <;> (try split) <;> rfl
theorem refine_bel {D : Dom} {n m : Nat} (h : ∀ p ∈ D.ivs, p.1 < n) {b : BE} {v : Bool} (hb : b.bel n m = true) : ∀ p ∈ (refine_ D b v).ivs, p.1 < n := by
  unfold refine_
  split <;> (try (simp only [BE.bel, NE.bel, Bool.and_true, Bool.true_and] at hb; have hi := Nat.blt_eq.mp hb)) <;> (try split) <;> (try split) <;> (try split) <;> first | exact h | exact addR_bel h hi
def Ctx.bit (c : Ctx) (b : BE) (v : Bool) : Ctx := { c with bits := (b, v) :: c.bits, dom := refine_ c.dom b v }
theorem Ctx.bit_ok {c : Ctx} {ρ : Env} (h : c.Holds P ρ) {b : BE} {v : Bool} (hb : b.den ρ = v) : (c.bit b v).Holds P ρ :=
  ⟨fun p hp => (List.mem_cons.1 hp).elim (fun e => by rw [e]; exact hb) (h.bits p), h.calls, refine_ok h.dom hb, h.loops⟩
theorem Ctx.bit_bel {c : Ctx} {n m : Nat} (h : c.Bel n m) {b : BE} {v : Bool} (hb : b.bel n m = true) : (c.bit b v).Bel n m :=
  ⟨fun p hp => (List.mem_cons.1 hp).elim (fun e => by rw [e]; exact hb) (h.bits p), h.calls, refine_bel h.ivs hb, by simp only [Ctx.bit, refine_whs]; exact h.whs, h.loops⟩

/-- Numbers put in for the last variables. -/
def NE.sub (n : Nat) (ys : List NE) : NE → NE
  | .lit x => .lit x
  | .var i => if Nat.blt i n then .var i else ys.getD (i - n) (.lit 0)
  | .bin o a b => .bin o (a.sub n ys) (b.sub n ys)
  | .wrap k a => .wrap k (a.sub n ys)
  | .toF k a => .toF k (a.sub n ys)
  | .fneg k a => .fneg k (a.sub n ys)
  | .fop o k a b => .fop o k (a.sub n ys) (b.sub n ys)
def BE.sub (n : Nat) (ys : List NE) (m : Nat) (cs : List BE) : BE → BE
  | .lit x => .lit x
  | .var i => if Nat.blt i m then .var i else cs.getD (i - m) (.lit false)
  | .icmp o a b => .icmp o (a.sub n ys) (b.sub n ys)
  | .fcmp k o a b => .fcmp k o (a.sub n ys) (b.sub n ys)
  | .not a => .not (a.sub n ys m cs)
  | .and a b => .and (a.sub n ys m cs) (b.sub n ys m cs)
  | .beq a b => .beq (a.sub n ys m cs) (b.sub n ys m cs)
def denN (ρ : Env) (l : List NE) : List Int := l.map (·.den ρ)
def denB (ρ : Env) (l : List BE) : List Bool := l.map (·.den ρ)
theorem getD_take_append {α : Type} (L ys : List α) (d : α) (n i : Nat) (hn : n ≤ L.length) : (L.take n ++ ys).getD i d = if i < n then L.getD i d else ys.getD (i - n) d := by
  simp only [List.getD_eq_getElem?_getD, List.getElem?_append, List.length_take, Nat.min_eq_left hn, List.getElem?_take]
  split <;> simp_all
section
variable {L : List Int} {B : List Bool} {n m : Nat} (hn : n ≤ L.length) (hm : m ≤ B.length) (ys : List NE) (cs : List BE)
include hn
theorem NE.sub_den {B' : List Bool} : ∀ e : NE, (e.sub n ys).den (envL L B) = e.den (envL (L.take n ++ denN (envL L B) ys) B')
  | .lit _ => rfl
  | .var i => by
    simp only [NE.sub, NE.den, envL]
    rw [getD_take_append _ _ _ _ _ hn]
    split
    · rename_i h; rw [if_pos (Nat.blt_eq.mp h)]; rfl
    · rename_i h
      rw [if_neg (fun h' => h (Nat.blt_eq.mpr h'))]
      simp only [denN, List.getD_eq_getElem?_getD, List.getElem?_map]
      cases ys[i - n]? <;> rfl
  | .bin o a b => by simp only [NE.sub, NE.den, NE.sub_den (B' := B') a, NE.sub_den (B' := B') b]
  | .wrap k a => by simp only [NE.sub, NE.den, NE.sub_den (B' := B') a]
  | .toF k a => by simp only [NE.sub, NE.den, NE.sub_den (B' := B') a]
  | .fneg k a => by simp only [NE.sub, NE.den, NE.sub_den (B' := B') a]
  | .fop o k a b => by simp only [NE.sub, NE.den, NE.sub_den (B' := B') a, NE.sub_den (B' := B') b]
include hm
theorem BE.sub_den : ∀ e : BE, (e.sub n ys m cs).den (envL L B) = e.den (envL (L.take n ++ denN (envL L B) ys) (B.take m ++ denB (envL L B) cs))
  | .lit _ => rfl
  | .var i => by
    simp only [BE.sub, BE.den, envL]
    rw [getD_take_append _ _ _ _ _ hm]
    split
    · rename_i h; rw [if_pos (Nat.blt_eq.mp h)]; rfl
    · rename_i h
      rw [if_neg (fun h' => h (Nat.blt_eq.mpr h'))]
      simp only [denB, List.getD_eq_getElem?_getD, List.getElem?_map]
      cases cs[i - m]? <;> rfl
  | .icmp o a b => by simp only [BE.sub, BE.den, NE.sub_den (B' := B.take m ++ denB (envL L B) cs) hn ys a, NE.sub_den (B' := B.take m ++ denB (envL L B) cs) hn ys b]
  | .fcmp k o a b => by simp only [BE.sub, BE.den, NE.sub_den (B' := B.take m ++ denB (envL L B) cs) hn ys a, NE.sub_den (B' := B.take m ++ denB (envL L B) cs) hn ys b]
  | .not a => by simp only [BE.sub, BE.den, BE.sub_den a]
  | .and a b => by simp only [BE.sub, BE.den, BE.sub_den a, BE.sub_den b]
  | .beq a b => by simp only [BE.sub, BE.den, BE.sub_den a, BE.sub_den b]
end
def prSub (n m : Nat) (ys : List NE) (cs : List BE) : Pr → Bool
  | .num x y => decide (x = y.sub n ys)
  | .tru x y => decide (x = y.sub n ys m cs)
  | .txt i j => Nat.beq i j
theorem prSub_ok {L : List Int} {B : List Bool} {n m : Nat} (hn : n ≤ L.length) (hm : m ≤ B.length) {ys : List NE} {cs : List BE} {l : List Pr} (h : l.all (prSub n m ys cs) = true) :
    All (envL L B) (envL (L.take n ++ denN (envL L B) ys) (B.take m ++ denB (envL L B) cs)) l := by
  intro p hp
  have := List.all_eq_true.1 h p hp
  cases p with
  | num x y =>
    simp only [prSub, decide_eq_true_eq] at this
    simp only [Pr.holds, this]; exact NE.sub_den hn ys y
  | tru x y =>
    simp only [prSub, decide_eq_true_eq] at this
    simp only [Pr.holds, this]; exact BE.sub_den hn hm ys cs y
  | txt i j =>
    simp only [prSub] at this
    have := Nat.eq_of_beq_eq_true this
    subst this; rfl

/-- All ways through a function, or through the body of a loop. -/
inductive Tr where
  | leaf (v : SV)
  | next (ns : List NE) (bs : List BE)
  | out (i : Nat) (ns : List NE) (bs : List BE)
  | ite (b : BE) (t e : Tr)
  | call (f : FuncId) (args : List SV) (r : SV) (k m : Nat) (t : Tr)
  | rng (i : Nat) (lo hi : Int) (t : Tr)
  | whole (i M : Nat) (t : Tr)
  | fact (b : BE) (v : Bool) (t : Tr)
  | loop (l : LoopN) (body exits : Tr)
  | ex (r : Res) (k m : Nat) (t rest : Tr)
  | told (l : LoopF) (t : Tr)
  | jn (l : LoopF) (bs : List BE) (t : Tr)
  | nil
  deriving Inhabited

def exN : Nat → (List Int → Prop) → Prop
  | 0, K => K []
  | k + 1, K => ∃ x : Int, exN k fun l => K (x :: l)
def exB : Nat → (List Bool → Prop) → Prop
  | 0, K => K []
  | k + 1, K => ∃ x : Bool, exB k fun l => K (x :: l)
theorem exN_ok : ∀ {k : Nat} {K : List Int → Prop}, exN k K → ∃ l, l.length = k ∧ K l
  | 0, K, h => ⟨[], rfl, h⟩
  | k + 1, K, ⟨x, h⟩ => by
    obtain ⟨l, hl, h⟩ := exN_ok h
    exact ⟨x :: l, by simp [hl], h⟩
theorem exB_ok : ∀ {k : Nat} {K : List Bool → Prop}, exB k K → ∃ l, l.length = k ∧ K l
  | 0, K, h => ⟨[], rfl, h⟩
  | k + 1, K, ⟨x, h⟩ => by
    obtain ⟨l, hl, h⟩ := exB_ok h
    exact ⟨x :: l, by simp [hl], h⟩
def allN : Nat → (List Int → Prop) → Prop
  | 0, K => K []
  | k + 1, K => ∀ x : Int, allN k fun l => K (x :: l)
def allB : Nat → (List Bool → Prop) → Prop
  | 0, K => K []
  | k + 1, K => ∀ x : Bool, allB k fun l => K (x :: l)
theorem allN_ok : ∀ {k : Nat} {K : List Int → Prop}, allN k K → ∀ l, l.length = k → K l
  | 0, K, h, [], _ => h
  | k + 1, K, h, x :: l, hl => allN_ok (h x) l (by simpa using hl)
  | 0, K, h, x :: l, hl => by simp at hl
  | k + 1, K, h, [], hl => by simp at hl
theorem allB_ok : ∀ {k : Nat} {K : List Bool → Prop}, allB k K → ∀ l, l.length = k → K l
  | 0, K, h, [], _ => h
  | k + 1, K, h, x :: l, hl => allB_ok (h x) l (by simpa using hl)
  | 0, K, h, x :: l, hl => by simp at hl
  | k + 1, K, h, [], hl => by simp at hl
/-- Functions of so many numbers and truths. -/
def curB : Nat → Type → Type
  | 0, α => α
  | k + 1, α => Bool → curB k α
def curN : Nat → Type → Type
  | 0, α => α
  | k + 1, α => Int → curN k α
def appB {α : Type} : (m : Nat) → curB m α → List Bool → α
  | 0, f, _ => f
  | m + 1, f, l => appB m (f (l.headD false)) l.tail
def appN {α : Type} : (k : Nat) → curN k α → List Int → α
  | 0, f, _ => f
  | k + 1, f, l => appN k (f (l.headD 0)) l.tail
def app2 {α : Type} (k m : Nat) (f : curN k (curB m α)) (xs : List Int) (bs : List Bool) : α := appB m (appN k f xs) bs

/-- What has to be shown: Q of what is returned; of a loop's body N of the next round's numbers, O of those that lead out. -/
def Tr.vc (P : Program) : Tr → (Value → Prop) → (List Int → List Bool → Prop) → (Nat → List Int → List Bool → Prop) → Option (Nat × List Int × List Bool) → List Int → List Bool → Prop
  | .leaf v, Q, _, _, _, L, B => Q (v.den (envL L B) σ0)
  | .next ns bs, _, N, _, _, L, B => N (denN (envL L B) ns) (denB (envL L B) bs)
  | .out i ns bs, _, _, O, _, L, B => O i (denN (envL L B) ns) (denB (envL L B) bs)
  | .ite b t e, Q, N, O, _, L, B => (b.den (envL L B) = true → t.vc P Q N O none L B) ∧ (b.den (envL L B) = false → e.vc P Q N O none L B)
  | .call f args r k m t, Q, N, O, _, L, B => exN k fun xs => exB m fun bs => (∀ w, Calls P f (denL (envL L B) σ0 args).toArray w fun e w' => e = .returned (r.den (envL (L ++ xs) (B ++ bs)) σ0) ∧ Below w.heap.size w w') ∧ t.vc P Q N O none (L ++ xs) (B ++ bs)
  | .rng i lo hi t, Q, N, O, _, L, B => (lo ≤ L.getD i 0 ∧ L.getD i 0 ≤ hi) ∧ t.vc P Q N O none L B
  | .whole i M t, Q, N, O, _, L, B => ∃ x : Int, (Rp (L.getD i 0).toNat x ∧ x.natAbs ≤ M) ∧ t.vc P Q N O none (L ++ [x]) B
  | .fact b v t, Q, N, O, _, L, B => b.den (envL L B) = v ∧ t.vc P Q N O none L B
  | .loop l body exits, Q, N, O, _, L, B => ∃ (I : curN l.k (curB l.m Prop)) (rk : curN l.k (curB l.m Nat)), app2 l.k l.m I (denN (envL L B) l.init) (denB (envL L B) l.initB) ∧
      allN l.k fun xs => allB l.m fun bs => app2 l.k l.m I xs bs → body.vc P (fun _ => False) (fun ys cs => app2 l.k l.m I ys cs ∧ app2 l.k l.m rk ys cs < app2 l.k l.m rk xs bs) (fun i ys cs => exits.vc P Q N O (some (i, ys, cs)) L B) none (L ++ xs) (B ++ bs)
  | .ex _ _ _ t rest, Q, N, O, s, L, B => match s with
    | some (0, ys, cs) => t.vc P Q N O none (L ++ ys) (B ++ cs)
    | some (i + 1, ys, cs) => rest.vc P Q N O (some (i, ys, cs)) L B
    | none => False
  | .told l t, Q, N, O, _, L, B => l.Ok P (envL L B) ∧ t.vc P Q N O none L B
  | .jn _ _ t, Q, N, O, _, L, B => t.vc P Q N O none L B
  | .nil, _, _, _, _, _, _ => False

/-- What the tree is of. -/
inductive Job where
  | fn (f : FuncId) (args : List SV)
  | body (l : LoopN) (exits : List (Res × Nat × Nat)) (n m : Nat)
def exitsOf : Tr → List (Res × Nat × Nat)
  | .ex r k m _ rest => (r, k, m) :: exitsOf rest
  | _ => []
def outChk (P : Program) (S : Facts) (lf d : Nat) (c : Ctx) (l : LoopN) (r : Res) (n m k k' : Nat) (ns : List NE) (bs : List BE) : Bool :=
  decide (ns.length = k) && (decide (bs.length = k') && match stepQ P (c.facts S) c.loops lf d l.g l.p l.T l.H r with
    | some prs => prs.all (prSub n m ns bs)
    | none => false)
def isNormal : Ex → Bool
  | .normal => true
  | _ => false
def loopChk (l : LoopN) (exits : List (Res × Nat × Nat)) (n m : Nat) : Bool :=
  decide (l.init.length = l.k) && (decide (l.initB.length = l.m) && (belL n m l.T0 && (belH n m l.H0 && (belL (n + l.k) (m + l.m) l.T && (belH (n + l.k) (m + l.m) l.H && ((match entry l.T0 l.H0 l.T l.H l.W with
    | some prs => prs.all (prSub n m l.init l.initB)
    | none => false) && exits.all fun x => !(isNormal x.1.1) && (belL (n + x.2.1) (m + x.2.2) x.1.2.1 && belH (n + x.2.1) (m + x.2.2) x.1.2.2.1)))))))
/-- The same on both sides. -/
def prRefl : Pr → Bool
  | .num x y => decide (x = y)
  | .tru x y => decide (x = y)
  | .txt i j => Nat.beq i j
theorem prRefl_ok {ρ : Env} {l : List Pr} (h : l.all prRefl = true) : All ρ ρ l := by
  intro p hp
  have := List.all_eq_true.1 h p hp
  cases p with
  | num x y => simp only [prRefl, decide_eq_true_eq] at this; simp only [Pr.holds, this]
  | tru x y => simp only [prRefl, decide_eq_true_eq] at this; simp only [Pr.holds, this]
  | txt i j => simp only [prRefl] at this; have := Nat.eq_of_beq_eq_true this; subst this; rfl
/-- A loop that is walked as it stands. -/
def toldChk (P : Program) (S : Facts) (lf d : Nat) (c : Ctx) (l : LoopF) : Bool := match codeAt P l.f l.path with
  | some x => (match Nat.ble l.T.length 549755813888 with
    | true => (match evCW P (c.facts S) c.loops lf (evFS P (c.facts S) c.loops lf d) l.f 1000 l.path x (Sl.ofL l.T) l.H [] with
      | some (e, T1, H1, W1) => decide (e = l.r.1) && (okC l.H H1 W1 l.r.2.1 l.r.2.2.1 l.r.2.2.2 && (match prT T1.toL l.r.2.1, prH H1 l.r.2.2.1 with
        | some l1, some l2 => (l1 ++ l2).all prRefl
        | _, _ => false))
      | none => false)
    | false => false)
  | none => false
theorem told_loop {ρ : Env} (hm : P.follows .mixedOrders = true) (hn : namesOk P = true) {S : Facts} (hS : S.Holds P ρ) {lf d : Nat} {c : Ctx} (hc : c.Holds P ρ) {l : LoopF} (h : toldChk P S lf d c l = true) : l.Ok P ρ := by
  intro x hx
  unfold toldChk at h
  rw [hx] at h
  simp only at h
  split at h
  · rename_i hle
    have hle := Nat.le_of_ble_eq_true hle
    have eT : (Sl.ofL l.T).toL = l.T := Sl.ofL_toL hle
    have hsm : (Sl.ofL l.T).small = true := by
      unfold Sl.small Sl.ofL
      exact Nat.ble_eq.mpr hle
    split at h
    · rename_i e T1 H1 W1 he
      obtain ⟨hC, _⟩ := evCS_ok P _ _ lf _ _ _ _ _ _ _ _ hsm (evCW_nil he)
      rw [eT] at hC
      simp only [Bool.and_eq_true, decide_eq_true_eq] at h
      obtain ⟨h1, h2, h3⟩ := h
      split at h3
      · rename_i l1 l2 q1 q2
        have hA := prRefl_ok (ρ := ρ) h3
        have := (evC_ok hm (Ctx.facts_ok hS hc) hc.loops (evFS_ok hm hn (Ctx.facts_ok hS hc) hc.loops d) _ _ _ _ _ _ hx hC).conv q1 q2 h2 hA.left hA.right
        obtain ⟨f, p, T, H, r1, r2, r3, r4⟩ := l
        simp only [toRes] at h1 this ⊢
        subst h1
        exact this
      · cases h3
    · cases h
  · cases h
/-- A loop that is walked in all cases of some truths, with one and the same end. -/
def toldBits (P : Program) (S : Facts) (lf d : Nat) : List BE → Ctx → LoopF → Bool
  | [], c, l => toldChk P S lf d c l
  | b :: bs, c, l => toldBits P S lf d bs (c.bit b true) l && toldBits P S lf d bs (c.bit b false) l
theorem told_bits {ρ : Env} (hm : P.follows .mixedOrders = true) (hn : namesOk P = true) {S : Facts} (hS : S.Holds P ρ) {lf d : Nat} {l : LoopF} : ∀ (bs : List BE) {c : Ctx}, c.Holds P ρ → toldBits P S lf d bs c l = true → l.Ok P ρ
  | [], c, hc, h => told_loop hm hn hS hc h
  | b :: bs, c, hc, h => by
    simp only [toldBits, Bool.and_eq_true] at h
    cases hb : b.den ρ with
    | true => exact told_bits hm hn hS bs (Ctx.bit_ok hc hb) h.1
    | false => exact told_bits hm hn hS bs (Ctx.bit_ok hc hb) h.2
/-- That these are all ways. -/
def Tr.chk (P : Program) (S : Facts) (lf d : Nat) : Tr → Job → Ctx → Nat → Nat → Bool
  | .leaf v, J, c, _, _ => (match J with
    | .fn f args => (match evFS P (c.facts S) c.loops lf d f args [] with
      | some (u, _, W) => u.same v && (v.inside 0 && W.isEmpty)
      | none => false)
    | _ => false)
  | .next ns bs, J, c, _, _ => (match J with
    | .body l _ n0 m0 => outChk P S lf d c l (.normal, l.T, l.H, l.W) n0 m0 l.k l.m ns bs
    | _ => false)
  | .out i ns bs, J, c, _, _ => (match J with
    | .body l exits n0 m0 => (match exits[i]? with
      | some (r, k, m) => outChk P S lf d c l (r.1, r.2.1, r.2.2.1, l.W) n0 m0 k m ns bs
      | none => false)
    | _ => false)
  | .ite b t e, J, c, n, m => b.bel n m && (t.chk P S lf d J (c.bit b true) n m && e.chk P S lf d J (c.bit b false) n m)
  | .call g gs r k l t, J, c, n, m => belL n m gs && (r.bel (n + k) (m + l) && t.chk P S lf d J { c with calls := ((g, gs), r) :: c.calls } (n + k) (m + l))
  | .rng i lo hi t, J, c, n, m => Nat.blt i n && t.chk P S lf d J { c with dom := c.dom.addR i lo hi } n m
  | .whole i M t, J, c, n, m => Nat.blt i n && (Nat.ble M 9007199254740992 && t.chk P S lf d J { c with dom := { c.dom with whs := (i, .var n, M) :: c.dom.whs } } (n + 1) m)
  | .fact b v t, J, c, n, m => b.bel n m && t.chk P S lf d J (c.bit b v) n m
  | .loop l body exits, J, c, n, m => loopChk l (exitsOf exits) n m && (body.chk P S lf d (.body l (exitsOf exits) n m) c (n + l.k) (m + l.m) && exits.chk P S lf d J { c with cur := some l } n m)
  | .ex r k mm t rest, J, c, n, m => (match c.cur with
    | some l => t.chk P S lf d J { c with loops := ⟨l.g, l.p, l.T0, l.H0, (r.1, r.2.1, r.2.2.1, l.W)⟩ :: c.loops, cur := none } (n + k) (m + mm) && rest.chk P S lf d J c n m
    | none => false)
  | .told l t, J, c, n, m => belF n m l && t.chk P S lf d J { c with loops := l :: c.loops } n m
  | .jn l bs t, J, c, n, m => (belF n m l && toldBits P S lf d bs c l) && t.chk P S lf d J { c with loops := l :: c.loops } n m
  | .nil, _, _, _, _ => true

/-- What is so of the function, or of the loop's body. -/
def Concl (P : Program) (Q : Value → Prop) (N : List Int → List Bool → Prop) (O : Nat → List Int → List Bool → Prop) (L : List Int) (B : List Bool) : Job → Prop
  | .fn f args => ∃ v, Q v ∧ ∀ w, Calls P f (denL (envL L B) σ0 args).toArray w fun e w' => e = .returned v ∧ Below w.heap.size w w'
  | .body l exits n m =>
    (∃ ys cs, ys.length = l.k ∧ cs.length = l.m ∧ N ys cs ∧ ∀ x, codeAt P l.g l.p = some (.loop x) → Leads2 P (envL L B) (envL (L.take n ++ ys) (B.take m ++ cs)) x l.T l.H (.normal, l.T, l.H, l.W)) ∨
    (∃ i r k k' ys cs, exits[i]? = some (r, k, k') ∧ ys.length = k ∧ cs.length = k' ∧ O i ys cs ∧ ∀ x, codeAt P l.g l.p = some (.loop x) → Leads2 P (envL L B) (envL (L.take n ++ ys) (B.take m ++ cs)) x l.T l.H (r.1, r.2.1, r.2.2.1, l.W))
/-- The job names variables that are there. -/
def Job.Bel (P : Program) (n m : Nat) : Job → Prop
  | .fn f args => belL n m args = true ∧ insideL 0 args = true ∧ ((P.funcs[f]?).bind (·.body)).isSome = true
  | .body l exits n0 m0 => n0 ≤ n ∧ m0 ≤ m ∧ belL n m l.T = true ∧ belH n m l.H = true
theorem Job.Bel.mono {n n' m m' : Nat} (hn : n ≤ n') (hm : m ≤ m') {J : Job} (h : J.Bel P n m) : J.Bel P n' m' := by
  cases J with
  | fn f args => exact ⟨belL_mono hn hm _ h.1, h.2⟩
  | body l exits n0 m0 => exact ⟨Nat.le_trans h.1 hn, Nat.le_trans h.2.1 hm, belL_mono hn hm _ h.2.2.1, belH_mono hn hm _ h.2.2.2⟩
theorem take_ext {α : Type} {L xs : List α} {n : Nat} (h : n ≤ L.length) : (L ++ xs).take n = L.take n := by
  rw [List.take_append_of_le_length h]
theorem Concl.back {Q : Value → Prop} {N : List Int → List Bool → Prop} {O : Nat → List Int → List Bool → Prop} {L L' : List Int} {B B' : List Bool} {J : Job} (hE : Ext L B L' B') (hJ : J.Bel P L.length B.length) (h : Concl P Q N O L' B' J) : Concl P Q N O L B J := by
  cases J with
  | fn f args =>
    obtain ⟨v, hv, h⟩ := h
    exact ⟨v, hv, fun w => by rw [← denL_ext hE σ0 args hJ.1]; exact h w⟩
  | body l exits n m =>
    obtain ⟨xs, rfl⟩ := hE.num
    obtain ⟨bs, rfl⟩ := hE.tru
    simp only [Concl, take_ext hJ.1, take_ext hJ.2.1] at h ⊢
    rcases h with ⟨ys, cs, h1, h2, h3, h4⟩ | ⟨i, r, k, k', ys, cs, h0, h1, h2, h3, h4⟩
    · exact .inl ⟨ys, cs, h1, h2, h3, fun x hx => (h4 x hx).back hE hJ.2.2.1 hJ.2.2.2⟩
    · exact .inr ⟨i, r, k, k', ys, cs, h0, h1, h2, h3, fun x hx => (h4 x hx).back hE hJ.2.2.1 hJ.2.2.2⟩

theorem outChk_ok (hm : P.follows .mixedOrders = true) (hn : namesOk P = true) {S : Facts} {L : List Int} {B : List Bool} (hS : S.Holds P (envL L B)) {lf d : Nat} {c : Ctx} (hc : c.Holds P (envL L B)) {l : LoopN} {r : Res} {n m k k' : Nat} {ns : List NE} {bs : List BE}
    (hn0 : n ≤ L.length) (hm0 : m ≤ B.length) (h : outChk P S lf d c l r n m k k' ns bs = true) :
    (denN (envL L B) ns).length = k ∧ (denB (envL L B) bs).length = k' ∧ ∀ x, codeAt P l.g l.p = some (.loop x) → Leads2 P (envL L B) (envL (L.take n ++ denN (envL L B) ns) (B.take m ++ denB (envL L B) bs)) x l.T l.H r := by
  simp only [outChk, Bool.and_eq_true, decide_eq_true_eq] at h
  obtain ⟨h1, h2, h3⟩ := h
  split at h3
  · rename_i prs hs
    exact ⟨by simp [denN, h1], by simp [denB, h2], stepQ_ok hm hn (Ctx.facts_ok hS hc) hc.loops hs (prSub_ok hn0 hm0 h3)⟩
  · cases h3

/-- Rounds of a loop, from one environment to another one. -/
def LeadsR (P : Program) (ρ ρ' : Env) (n : Nat) (c : Code) (T : List SV) (H : Hp) (r : Res) : Prop :=
  ∀ (σ : Sg) (a : Act) (w : World) (Q : Exit → Act → World → Prop), TRel ρ σ H.length T a → HRel P ρ σ H w →
    (∀ σ' a' w', Post P ρ' σ σ' H r.2.2.1 r.2.2.2 w w' → TRel ρ' σ' r.2.2.1.length r.2.1 a' → Q r.1.out a' w') → Code.rounds P c Q n a w
theorem LeadsR.out {ρ ρ' : Env} {n : Nat} {c : Code} {T : List SV} {H : Hp} {r : Res} (hr1 : isNormal r.1 = false) (h : Leads2 P ρ ρ' c T H r) : LeadsR P ρ ρ' (n + 1) c T H r := by
  intro σ a w Q hT hr hQ
  rw [rounds_succ]
  refine h σ a w _ hT hr fun σ' a' w' hp hT' => ?_
  have := hQ σ' a' w' hp hT'
  cases h : r.1 with
  | normal => rw [h] at hr1; cases hr1
  | exit id => rw [h] at this; exact this
  | ret => rw [h] at this; exact this
theorem LeadsR.next {ρ ρ1 ρ' : Env} {n : Nat} {c : Code} {T : List SV} {H : Hp} {r : Res} (h : Leads2 P ρ ρ1 c T H (.normal, T, H, r.2.2.2)) (h' : LeadsR P ρ1 ρ' n c T H r) : LeadsR P ρ ρ' (n + 1) c T H r := by
  intro σ a w Q hT hr hQ
  rw [rounds_succ]
  refine h σ a w _ hT hr fun σ1 a1 w1 hp hT1 => ?_
  refine h' σ1 a1 w1 Q hT1 hp.rel fun σ' a' w' hp' hT' => hQ σ' a' w' ?_ hT'
  exact (hp.trans hp').mono fun b hb => (List.mem_append.1 hb).elim id id
theorem LeadsR.loop {ρ ρ' : Env} {n : Nat} {c : Code} {T : List SV} {H : Hp} {r : Res} (h : LeadsR P ρ ρ' n c T H r) : Leads2 P ρ ρ' (.loop c) T H r :=
  fun σ a w Q hT hr hQ => wp_loop_rounds n (h σ a w Q hT hr hQ)

theorem exitsOf_get : ∀ {t : Tr} {i : Nat} {r : Res} {k m : Nat}, (exitsOf t)[i]? = some (r, k, m) → ∀ {Q : Value → Prop} {N : List Int → List Bool → Prop} {O : Nat → List Int → List Bool → Prop} {ys : List Int} {cs : List Bool} {L : List Int} {B : List Bool} {S : Facts} {lf d : Nat} {J : Job} {c : Ctx} {l : LoopN},
    c.cur = some l → t.vc P Q N O (some (i, ys, cs)) L B → t.chk P S lf d J c L.length B.length = true →
    ∃ t' : Tr, SizeOf.sizeOf t' < SizeOf.sizeOf t ∧ t'.vc P Q N O none (L ++ ys) (B ++ cs) ∧ t'.chk P S lf d J { c with loops := ⟨l.g, l.p, l.T0, l.H0, (r.1, r.2.1, r.2.2.1, l.W)⟩ :: c.loops, cur := none } (L.length + k) (B.length + m) = true
  | .ex r k m t rest, 0, _, _, _, h, Q, N, O, ys, cs, L, B, S, lf, d, J, c, l, hcur, hv, hk => by
    simp only [exitsOf, List.getElem?_cons_zero, Option.some.injEq, Prod.mk.injEq] at h
    obtain ⟨rfl, rfl, rfl⟩ := h
    simp only [Tr.chk, hcur, Bool.and_eq_true] at hk
    exact ⟨t, by simp; omega, hv, hk.1⟩
  | .ex r k m t rest, i + 1, _, _, _, h, Q, N, O, ys, cs, L, B, S, lf, d, J, c, l, hcur, hv, hk => by
    simp only [exitsOf, List.getElem?_cons_succ] at h
    simp only [Tr.chk, hcur, Bool.and_eq_true] at hk
    obtain ⟨t', h1, h2, h3⟩ := exitsOf_get h hcur hv hk.2
    exact ⟨t', by simp; omega, h2, h3⟩
  | .leaf _, _, _, _, _, h, _, _, _, _, _, _, _, _, _, _, _, _, _, _, _, _ => by simp [exitsOf] at h
  | .next _ _, _, _, _, _, h, _, _, _, _, _, _, _, _, _, _, _, _, _, _, _, _ => by simp [exitsOf] at h
  | .out _ _ _, _, _, _, _, h, _, _, _, _, _, _, _, _, _, _, _, _, _, _, _, _ => by simp [exitsOf] at h
  | .ite _ _ _, _, _, _, _, h, _, _, _, _, _, _, _, _, _, _, _, _, _, _, _, _ => by simp [exitsOf] at h
  | .call _ _ _ _ _ _, _, _, _, _, h, _, _, _, _, _, _, _, _, _, _, _, _, _, _, _, _ => by simp [exitsOf] at h
  | .rng _ _ _ _, _, _, _, _, h, _, _, _, _, _, _, _, _, _, _, _, _, _, _, _, _ => by simp [exitsOf] at h
  | .whole _ _ _, _, _, _, _, h, _, _, _, _, _, _, _, _, _, _, _, _, _, _, _, _ => by simp [exitsOf] at h
  | .fact _ _ _, _, _, _, _, h, _, _, _, _, _, _, _, _, _, _, _, _, _, _, _, _ => by simp [exitsOf] at h
  | .loop _ _ _, _, _, _, _, h, _, _, _, _, _, _, _, _, _, _, _, _, _, _, _, _ => by simp [exitsOf] at h
  | .told _ _, _, _, _, _, h, _, _, _, _, _, _, _, _, _, _, _, _, _, _, _, _ => by simp [exitsOf] at h
  | .jn _ _ _, _, _, _, _, h, _, _, _, _, _, _, _, _, _, _, _, _, _, _, _, _ => by simp [exitsOf] at h
  | .nil, _, _, _, _, h, _, _, _, _, _, _, _, _, _, _, _, _, _, _, _, _ => by simp [exitsOf] at h

theorem tree_ok (hm : P.follows .mixedOrders = true) (hn : namesOk P = true) {S : Facts} (hS : ∀ L B, S.Holds P (envL L B)) {lf d : Nat} (t : Tr) (J : Job) (c : Ctx) (L : List Int) (B : List Bool) {Q : Value → Prop} {N : List Int → List Bool → Prop} {O : Nat → List Int → List Bool → Prop}
    (h : t.chk P S lf d J c L.length B.length = true) (hc : c.Holds P (envL L B)) (hbel : c.Bel L.length B.length) (hJ : J.Bel P L.length B.length) (hv : t.vc P Q N O none L B) : Concl P Q N O L B J := by
  match t with
  | .leaf v =>
    cases J with
    | body l exits n m => simp [Tr.chk] at h
    | fn f args =>
      simp only [Tr.chk] at h
      split at h
      · rename_i u H W he
        simp only [Bool.and_eq_true] at h
        obtain ⟨h1, h2, h3⟩ := h
        have e1 := SV.same_eq _ _ h1
        subst e1
        have e2 : W = [] := by cases W with | nil => rfl | cons a l => cases h3
        subst e2
        exact ⟨_, hv, fun w => calls_of_evS hm hn (Ctx.facts_ok (hS L B) hc) hc.loops he h2 hJ.2.1 hJ.2.2 w⟩
      · cases h
  | .next ns bs =>
    cases J with
    | fn f args => simp [Tr.chk] at h
    | body l exits n m =>
      simp only [Tr.chk] at h
      obtain ⟨h1, h2, h3⟩ := outChk_ok hm hn (hS L B) hc hJ.1 hJ.2.1 h
      exact .inl ⟨_, _, h1, h2, hv, h3⟩
  | .out i ns bs =>
    cases J with
    | fn f args => simp [Tr.chk] at h
    | body l exits n m =>
      simp only [Tr.chk] at h
      split at h
      · rename_i r k k' hx
        obtain ⟨h1, h2, h3⟩ := outChk_ok hm hn (hS L B) hc hJ.1 hJ.2.1 h
        exact .inr ⟨i, r, k, k', _, _, hx, h1, h2, hv, h3⟩
      · cases h
  | .ite b t e =>
    simp only [Tr.chk, Bool.and_eq_true] at h
    cases hd : b.den (envL L B) with
    | true => exact tree_ok hm hn hS t J _ L B h.2.1 (Ctx.bit_ok hc hd) (Ctx.bit_bel hbel h.1) hJ (hv.1 hd)
    | false => exact tree_ok hm hn hS e J _ L B h.2.2 (Ctx.bit_ok hc hd) (Ctx.bit_bel hbel h.1) hJ (hv.2 hd)
  | .call g gs r k l t =>
    simp only [Tr.chk, Bool.and_eq_true] at h
    simp only [Tr.vc] at hv
    obtain ⟨xs, hxs, hv⟩ := exN_ok hv
    obtain ⟨bs, hbs, hv1, hv2⟩ := exB_ok hv
    have hE : Ext L B (L ++ xs) (B ++ bs) := ⟨⟨xs, rfl⟩, ⟨bs, rfl⟩⟩
    have hl := hE.len
    have e1 : (L ++ xs).length = L.length + k := by simp [hxs]
    have e2 : (B ++ bs).length = B.length + l := by simp [hbs]
    refine Concl.back hE hJ (tree_ok hm hn hS t J _ (L ++ xs) (B ++ bs) (by rw [e1, e2]; exact h.2.2) ?_ ?_ (hJ.mono hl.1 hl.2) hv2)
    · have := hc.ext hE hbel
      refine ⟨this.bits, fun p hp => ?_, this.dom, this.loops⟩
      rcases List.mem_cons.1 hp with rfl | hp
      · intro w
        simp only
        rw [denL_ext hE σ0 gs h.1]
        exact hv1 w
      · exact this.calls p hp
    · have := hbel.mono hl.1 hl.2
      refine ⟨this.bits, fun p hp => ?_, this.ivs, this.whs, this.loops⟩
      rcases List.mem_cons.1 hp with rfl | hp
      · exact ⟨belL_mono hl.1 hl.2 _ h.1, by rw [e1, e2]; exact h.2.1⟩
      · exact this.calls p hp
  | .rng i lo hi t =>
    simp only [Tr.chk, Bool.and_eq_true] at h
    exact tree_ok hm hn hS t J _ L B h.2 ⟨hc.bits, hc.calls, Dom.addR_ok hc.dom hv.1.1 hv.1.2, hc.loops⟩ ⟨hbel.bits, hbel.calls, addR_bel hbel.ivs (Nat.blt_eq.mp h.1), hbel.whs, hbel.loops⟩ hJ hv.2
  | .whole i M t =>
    simp only [Tr.chk, Bool.and_eq_true] at h
    obtain ⟨x, hx, hv⟩ := hv
    have hE : Ext L B (L ++ [x]) B := ⟨⟨[x], rfl⟩, ⟨[], by simp⟩⟩
    have hl := hE.len
    have hi := Nat.blt_eq.mp h.1
    have e : (envL (L ++ [x]) B).n L.length = x := by simp [envL, List.getD_eq_getElem?_getD]
    refine Concl.back hE hJ (tree_ok hm hn hS t J _ (L ++ [x]) B (by simpa using h.2.2) ?_ ?_ (hJ.mono hl.1 hl.2) hv)
    · have := hc.ext hE hbel
      refine ⟨this.bits, this.calls, ⟨this.dom.ivs, fun p hp => ?_⟩, this.loops⟩
      rcases List.mem_cons.1 hp with rfl | hp
      · simp only [NE.den]
        rw [hE.n hi, e]
        exact ⟨hx.1, hx.2, Nat.le_of_ble_eq_true h.2.1⟩
      · exact this.dom.whs p hp
    · have := hbel.mono hl.1 hl.2
      refine ⟨this.bits, this.calls, this.ivs, fun p hp => ?_, this.loops⟩
      rcases List.mem_cons.1 hp with rfl | hp
      · exact ⟨Nat.lt_of_lt_of_le hi hl.1, by simp [NE.bel]⟩
      · exact this.whs p hp
  | .fact b v t =>
    simp only [Tr.chk, Bool.and_eq_true] at h
    exact tree_ok hm hn hS t J _ L B h.2 (Ctx.bit_ok hc hv.1) (Ctx.bit_bel hbel h.1) hJ hv.2
  | .loop l body exits =>
    simp only [Tr.chk, Bool.and_eq_true] at h
    obtain ⟨hl, hb, hx⟩ := h
    simp only [loopChk, Bool.and_eq_true, decide_eq_true_eq] at hl
    obtain ⟨g1, g2, g3, g4, g5, g6, g7, g8⟩ := hl
    obtain ⟨I, rk, hI, hbody⟩ := hv
    have key : ∀ (n : Nat) (xs : List Int) (bs : List Bool), xs.length = l.k → bs.length = l.m → app2 l.k l.m I xs bs → app2 l.k l.m rk xs bs < n →
        ∃ i r k k' ys cs, (exitsOf exits)[i]? = some (r, k, k') ∧ ys.length = k ∧ cs.length = k' ∧ exits.vc P Q N O (some (i, ys, cs)) L B ∧
          ∀ x, codeAt P l.g l.p = some (.loop x) → LeadsR P (envL (L ++ xs) (B ++ bs)) (envL (L ++ ys) (B ++ cs)) n x l.T l.H (r.1, r.2.1, r.2.2.1, l.W) := by
      intro n
      induction n with
      | zero => intro xs bs _ _ _ h; omega
      | succ n ih =>
        intro xs bs hxs hbs hIx hlt
        have hE : Ext L B (L ++ xs) (B ++ bs) := ⟨⟨xs, rfl⟩, ⟨bs, rfl⟩⟩
        have hle := hE.len
        have e1 : (L ++ xs).length = L.length + l.k := by simp [hxs]
        have e2 : (B ++ bs).length = B.length + l.m := by simp [hbs]
        have hvb := allB_ok (allN_ok hbody xs hxs) bs hbs hIx
        have hC := tree_ok hm hn hS body (.body l (exitsOf exits) L.length B.length) c (L ++ xs) (B ++ bs) (by rw [e1, e2]; exact hb) (hc.ext hE hbel) (hbel.mono hle.1 hle.2)
          ⟨hle.1, hle.2, by rw [e1, e2]; exact g5, by rw [e1, e2]; exact g6⟩ hvb
        simp only [Concl, List.take_left] at hC
        rcases hC with ⟨ys, cs, k1, k2, ⟨k3, k4⟩, k5⟩ | ⟨i, r, k, k', ys, cs, q0, q1, q2, q3, q4⟩
        · obtain ⟨i, r, k, k', zs, ds, q0, q1, q2, q3, q4⟩ := ih ys cs k1 k2 k3 (by omega)
          exact ⟨i, r, k, k', zs, ds, q0, q1, q2, q3, fun x hx => LeadsR.next (k5 x hx) (q4 x hx)⟩
        · have := List.all_eq_true.1 g8 _ (List.mem_of_getElem? q0)
          simp only [Bool.and_eq_true, Bool.not_eq_true'] at this
          exact ⟨i, r, k, k', ys, cs, q0, q1, q2, q3, fun x hx => LeadsR.out this.1 (q4 x hx)⟩
    obtain ⟨i, r, k, k', ys, cs, q0, q1, q2, q3, q4⟩ := key _ _ _ (by simp [denN, g1]) (by simp [denB, g2]) hI (Nat.lt_succ_self _)
    obtain ⟨t', hs', hv', hk'⟩ := exitsOf_get q0 (c := { c with cur := some l }) rfl q3 hx
    have hE : Ext L B (L ++ ys) (B ++ cs) := ⟨⟨ys, rfl⟩, ⟨cs, rfl⟩⟩
    have hle := hE.len
    have e1 : (L ++ ys).length = L.length + k := by simp [q1]
    have e2 : (B ++ cs).length = B.length + k' := by simp [q2]
    have hxr := List.all_eq_true.1 g8 _ (List.mem_of_getElem? q0)
    simp only [Bool.and_eq_true, Bool.not_eq_true'] at hxr
    split at g7
    · rename_i prs hprs
      have hpr := prSub_ok (L := L) (B := B) (Nat.le_refl _) (Nat.le_refl _) g7
      simp only [List.take_length] at hpr
      refine Concl.back hE hJ (tree_ok hm hn hS t' J _ (L ++ ys) (B ++ cs) (by rw [e1, e2]; exact hk') ?_ ?_ (hJ.mono hle.1 hle.2) hv')
      · have := hc.ext hE hbel
        refine ⟨this.bits, this.calls, this.dom, fun f hf => ?_⟩
        rcases List.mem_cons.1 hf with rfl | hf
        · intro x hx'
          have h2 : Leads2 P (envL L B) (envL (L ++ ys) (B ++ cs)) (.loop x) l.T0 l.H0 (r.1, r.2.1, r.2.2.1, l.W) := entry2_ok hprs hpr (q4 x hx').loop
          intro σ a w Q hT hr hQ
          exact h2 σ a w Q ((hE.trel g3).1 hT) ((hE.hrel g4).1 hr) hQ
        · exact this.loops f hf
      · have := hbel.mono hle.1 hle.2
        refine ⟨this.bits, this.calls, this.ivs, this.whs, fun f hf => ?_⟩
        rcases List.mem_cons.1 hf with rfl | hf
        · simp only [belF, Bool.and_eq_true]
          exact ⟨belL_mono hle.1 hle.2 _ g3, belH_mono hle.1 hle.2 _ g4, by rw [e1, e2]; exact hxr.2.1, by rw [e1, e2]; exact hxr.2.2⟩
        · exact this.loops f hf
    · cases g7
  | .told l t =>
    simp only [Tr.chk, Bool.and_eq_true] at h
    refine tree_ok hm hn hS t J _ L B h.2 ⟨hc.bits, hc.calls, hc.dom, fun f hf => ?_⟩ ⟨hbel.bits, hbel.calls, hbel.ivs, hbel.whs, fun f hf => ?_⟩ hJ hv.2
    · rcases List.mem_cons.1 hf with rfl | hf
      · exact hv.1
      · exact hc.loops f hf
    · rcases List.mem_cons.1 hf with rfl | hf
      · exact h.1
      · exact hbel.loops f hf
  | .jn l bs t =>
    simp only [Tr.chk, Bool.and_eq_true] at h
    refine tree_ok hm hn hS t J _ L B h.2 ⟨hc.bits, hc.calls, hc.dom, fun f hf => ?_⟩ ⟨hbel.bits, hbel.calls, hbel.ivs, hbel.whs, fun f hf => ?_⟩ hJ hv
    · rcases List.mem_cons.1 hf with rfl | hf
      · exact told_bits hm hn (hS L B) bs hc h.1.2
      · exact hc.loops f hf
    · rcases List.mem_cons.1 hf with rfl | hf
      · exact h.1.1
      · exact hbel.loops f hf
  | .ex r k m t rest => simp [Tr.vc] at hv
  | .nil => simp [Tr.vc] at hv
termination_by SizeOf.sizeOf t

/-- From ranges alone. -/
theorem told_at (hm : P.follows .mixedOrders = true) (hn : namesOk P = true) {S : Facts} {L : List Int} {B : List Bool} (hS : S.Holds P (envL L B)) {lf d : Nat} (D : Dom) (hD : D.Holds (envL L B)) (Λ : List LoopF) (hΛ : ∀ l ∈ Λ, l.Ok P (envL L B)) {l : LoopF} (h : toldChk P S lf d { dom := D, loops := Λ } l = true) : l.Ok P (envL L B) :=
  told_loop hm hn hS ⟨(fun _ h => by cases h), (fun _ h => by cases h), hD, hΛ⟩ h

/-- From nothing known but ranges, and which floats are whole. -/
def Ctx.start (D : Dom) : Ctx := { dom := D }
def startB (D : Dom) (n m : Nat) (args : List SV) : Bool := D.ivs.all (fun p => Nat.blt p.1 n) && (D.whs.all (fun p => Nat.blt p.1 n && (p.2.1.bel n && Nat.ble p.2.2 9007199254740992)) && (belL n m args && insideL 0 args))
/-- All ways through a function: what it hands back. -/
theorem tree_at (hm : P.follows .mixedOrders = true) (hn : namesOk P = true) {S : Facts} (hS : ∀ L B, S.Holds P (envL L B)) {lf d : Nat} {f : FuncId} {args : List SV} (t : Tr) (D : Dom) (L : List Int) (B : List Bool) (n m : Nat)
    (hL : L.length = n) (hB : B.length = m) (hb : ((P.funcs[f]?).bind (·.body)).isSome = true) (h0 : startB D n m args = true) (h : t.chk P S lf d (.fn f args) (Ctx.start D) n m = true)
    (hD : D.Holds (envL L B)) {Q : Value → Prop} (hv : t.vc P Q (fun _ _ => False) (fun _ _ _ => False) none L B) : ∃ v, Q v ∧ ∀ w, Calls P f (denL (envL L B) σ0 args).toArray w fun e w' => e = .returned v ∧ Below w.heap.size w w' := by
  subst hL; subst hB
  simp only [startB, Bool.and_eq_true] at h0
  obtain ⟨g1, g2, g3, g4⟩ := h0
  refine tree_ok hm hn hS t (.fn f args) (Ctx.start D) L B h ⟨(fun _ h => by cases h), (fun _ h => by cases h), hD, (fun _ h => by cases h)⟩ ⟨(fun _ h => by cases h), (fun _ h => by cases h), fun p hp => ?_, fun p hp => ?_, (fun _ h => by cases h)⟩ ⟨g3, g4, hb⟩ hv
  · exact Nat.blt_eq.mp (List.all_eq_true.1 g1 p hp)
  · have := List.all_eq_true.1 g2 p hp
    simp only [Bool.and_eq_true] at this
    exact ⟨Nat.blt_eq.mp this.1, this.2.1⟩
/-- Of one value. -/
theorem one_val {f : FuncId} {args : Array Value} {u : Value} (h : ∃ v, v = u ∧ ∀ w, Calls P f args w fun e w' => e = .returned v ∧ Below w.heap.size w w') (w : World) : Calls P f args w fun e w' => e = .returned u ∧ Below w.heap.size w w' := by
  obtain ⟨v, rfl, h⟩ := h; exact h w
end Go.Proofs.Ytipcoahafdolcaa.Ev
