/- The symbolic machine's contracts: what a function returns, told once for all inputs. -/
import Derived.Test.YtgdhpgjfebinhaaFvr
namespace Go.Proofs.Ytgdhpgjfebinhaa.Ev
set_option linter.unusedSimpArgs false
open Go Go.RowKit
set_option linter.unusedVariables false
set_option linter.unusedSectionVars false
variable {P : Program} {ρ ρ' : Env}

/-- What goes into a function and what comes out of it, by variables: first those of the inputs, behind them those of the results. The blocks are the rows that the arguments name, and the new ones. -/
structure Sig where
  f : FuncId
  inp : Sz
  out : Sz
  args : List SV
  H : Hp
  r : SV
  Hn : Hp
  deriving Inhabited
/-- The function does so, wherever its rows lie. -/
def Spec (P : Program) (S : Sig) (V : Vs) (xs : List Int) (bs : List Bool) (rs : List (Int → Int)) : Prop :=
  ∀ (σ : Sg) (w : World), HRel P (envV V) σ S.H w → Calls P S.f (denL (envV V) σ S.args).toArray w fun e w' => ∃ σ', Post P (envV (V.add xs bs rs)) σ σ' S.H (S.H ++ S.Hn) [] w w' ∧ e = .returned (S.r.den (envV (V.add xs bs rs)) σ')

mutual
/-- Two values that stand for the same, each in its environment and by its numbers of blocks. -/
def prM (bm : Nat → Nat) : SV → SV → Option (List Pr)
  | .bool a, .bool b => some (prB a b)
  | .int k a, .int l b => if k = l then some (prN a b) else none
  | .float k a, .float l b => if k = l then some (prN a b) else none
  | .complex k a c, .complex l b d => if k = l then some (prN a b ++ prN c d) else none
  | .str a, .str b => if a = b then some [] else none
  | .str a, .strn b => some (prN (.lit (enS a)) b)
  | .strn a, .strn b => some (prN a b)
  | .asl a n, .asl b m => if a = bm b then some (prN n m) else none
  | .ptr none, .ptr none => some []
  | .ptr (some a), .ptr (some b) => if a.block = bm b.block ∧ a.off = b.off ∧ a.spot = b.spot then some [] else none
  | .slice none n c, .slice none m d => if n = m ∧ c = d then some [] else none
  | .slice (some a) n c, .slice (some b) m d => if a.block = bm b.block ∧ a.off = b.off ∧ a.spot = b.spot ∧ n = m ∧ c = d then some [] else none
  | .vec a n, .vec b m => if a = bm b ∧ n = m then some [] else none
  | .eptr a i s c, .eptr b j u d => if a = bm b ∧ s = u ∧ c = d then some (prN i j) else none
  | .yld a, .yld b => if a = bm b then some [] else none
  | .vsl a s l n, .vsl b t k m => if a = bm b ∧ s = t ∧ l = k ∧ n = m then some [] else none
  | .rsl a s l n, .rsl b t k m => if a = bm b ∧ s = t then some (prN l k ++ prN n m) else none
  | .func f a c, .func g b d => if f = g then (match prML bm a b, prML bm c d with
    | some x, some y => some (x ++ y)
    | _, _ => none) else none
  | .nilFunc, .nilFunc => some []
  | .nilIface, .nilIface => some []
  | .iface t a, .iface u b => if t = u then prM bm a b else none
  | .agg a, .agg b => prML bm a b
  | .tuple a, .tuple b => prML bm a b
  | _, _ => none
def prML (bm : Nat → Nat) : List SV → List SV → Option (List Pr)
  | [], [] => some []
  | a :: l, b :: r => (match prM bm a b, prML bm l r with
    | some x, some y => some (x ++ y)
    | _, _ => none)
  | _, _ => none
end
mutual
theorem prM_ok {bm : Nat → Nat} {σ τ : Sg} {n : Nat} (hb : ∀ b, b < n → τ.pl b = σ.pl (bm b)) : ∀ (a b : SV) (l : List Pr), prM bm a b = some l → b.inside n = true → All ρ ρ' l → a.den ρ σ = b.den ρ' τ
  | .bool a, b, l, h, hi, hl => by
    cases b <;> simp only [prM] at h <;> try (cases h; done)
    cases h; simp only [SV.den, prB_ok hl]
  | .int k a, b, l, h, hi, hl => by
    cases b <;> simp only [prM] at h <;> try (cases h; done)
    split at h
    · rename_i e; cases h; simp only [SV.den, e, prN_ok hl]
    · cases h
  | .float k a, b, l, h, hi, hl => by
    cases b <;> simp only [prM] at h <;> try (cases h; done)
    split at h
    · rename_i e; cases h; simp only [SV.den, e, prN_ok hl]
    · cases h
  | .complex k a c, b, l, h, hi, hl => by
    cases b <;> simp only [prM] at h <;> try (cases h; done)
    split at h
    · rename_i e; cases h; simp only [SV.den, e, prN_ok hl.left, prN_ok hl.right]
    · cases h
  | .str a, b, l, h, hi, hl => by
    cases b <;> simp only [prM] at h <;> try (cases h; done)
    · split at h
      · rename_i e; simp only [SV.den, e]
      · cases h
    · cases h
      have := prN_ok hl
      simp only [SV.den, ← this, NE.den, deS_enS]
  | .strn a, b, l, h, hi, hl => by
    cases b <;> simp only [prM] at h <;> try (cases h; done)
    cases h
    simp only [SV.den, prN_ok hl]
  | .asl a n', b, l, h, hi, hl => by
    cases b <;> simp only [prM] at h <;> try (cases h; done)
    rename_i b m
    split at h
    · rename_i e
      cases h
      have hp := hb b (of_decide_eq_true hi)
      rw [← e] at hp
      simp only [Sg.pl, Pl.mk.injEq] at hp
      simp only [SV.den, prN_ok hl, hp.1, hp.2.1, hp.2.2.1, hp.2.2.2]
    · cases h
  | .ptr none, b, l, h, hi, hl => by
    cases b with
    | ptr a => cases a with
      | none => rfl
      | some a => simp [prM] at h
    | _ => simp [prM] at h
  | .ptr (some a), b, l, h, hi, hl => by
    cases b with
    | ptr b => cases b with
      | none => simp [prM] at h
      | some b =>
        simp only [prM] at h
        split at h
        · rename_i e
          have hp := hb b.block (of_decide_eq_true hi)
          rw [← e.1] at hp
          simp only [Sg.pl, Pl.mk.injEq] at hp
          simp only [SV.den, Option.map_some, Sg.addr, hp.1, e.2.1, e.2.2]
        · cases h
    | _ => simp [prM] at h
  | .slice none n' c, b, l, h, hi, hl => by
    cases b with
    | slice a m d => cases a with
      | none =>
        simp only [prM] at h
        split at h
        · rename_i e; simp only [SV.den, e.1, e.2, Option.map_none]
        · cases h
      | some a => simp [prM] at h
    | _ => simp [prM] at h
  | .slice (some a) n' c, b, l, h, hi, hl => by
    cases b with
    | slice b m d => cases b with
      | none => simp [prM] at h
      | some b =>
        simp only [prM] at h
        split at h
        · rename_i e
          have hp := hb b.block (of_decide_eq_true hi)
          rw [← e.1] at hp
          simp only [Sg.pl, Pl.mk.injEq] at hp
          simp only [SV.den, Option.map_some, Sg.addr, hp.1, e.2.1, e.2.2.1, e.2.2.2.1, e.2.2.2.2]
        · cases h
    | _ => simp [prM] at h
  | .vec a n', b, l, h, hi, hl => by
    cases b <;> simp only [prM] at h <;> try (cases h; done)
    rename_i b m
    split at h
    · rename_i e
      have hp := hb b (of_decide_eq_true hi)
      rw [← e.1] at hp
      simp only [Sg.pl, Pl.mk.injEq] at hp
      simp only [SV.den, hp.1, hp.2.1, e.2]
    · cases h
  | .rsl a s k n', b, l, h, hi, hl => by
    cases b <;> simp only [prM] at h <;> try (cases h; done)
    rename_i b t2 k2 m
    split at h
    · rename_i e
      cases h
      have hp := hb b (of_decide_eq_true hi)
      rw [← e.1] at hp
      simp only [Sg.pl, Pl.mk.injEq] at hp
      simp only [SV.den, hp.1, hp.2.1, hp.2.2.1, hp.2.2.2, e.2, prN_ok hl.left, prN_ok hl.right]
    · cases h
  | .vsl a s k n', b, l, h, hi, hl => by
    cases b <;> simp only [prM] at h <;> try (cases h; done)
    rename_i b t2 k2 m
    split at h
    · rename_i e
      have hp := hb b (of_decide_eq_true hi)
      rw [← e.1] at hp
      simp only [Sg.pl, Pl.mk.injEq] at hp
      simp only [SV.den, hp.1, hp.2.1, e.2.1, e.2.2.1, e.2.2.2]
    · cases h
  | .yld a, b, l, h, hi, hl => by
    cases b <;> simp only [prM] at h <;> try (cases h; done)
    rename_i b
    split at h
    · rename_i e
      have hp := hb b (of_decide_eq_true hi)
      rw [← e] at hp
      simp only [Sg.pl, Pl.mk.injEq] at hp
      simp only [SV.den, hp.1]
    · cases h
  | .eptr a i s c, b, l, h, hi, hl => by
    cases b <;> simp only [prM] at h <;> try (cases h; done)
    rename_i b j u d
    split at h
    · rename_i e
      cases h
      have hp := hb b (of_decide_eq_true hi)
      rw [← e.1] at hp
      simp only [Sg.pl, Pl.mk.injEq] at hp
      simp only [SV.den, prN_ok hl, hp.1, hp.2.2.1, e.2.1, e.2.2]
    · cases h
  | .func f a c, b, l, h, hi, hl => by
    cases b <;> simp only [prM] at h <;> try (cases h; done)
    simp only [SV.inside, Bool.and_eq_true] at hi
    split at h
    · rename_i e
      split at h
      · rename_i x y hx hy
        cases h
        simp only [SV.den, e, prML_ok hb _ _ _ hx hi.1 hl.left, prML_ok hb _ _ _ hy hi.2 hl.right]
      · cases h
    · cases h
  | .nilFunc, b, l, h, hi, hl => by cases b <;> simp only [prM] at h <;> first | rfl | (cases h; done)
  | .nilIface, b, l, h, hi, hl => by cases b <;> simp only [prM] at h <;> first | rfl | (cases h; done)
  | .iface t a, b, l, h, hi, hl => by
    cases b <;> simp only [prM] at h <;> try (cases h; done)
    split at h
    · rename_i e; simp only [SV.inside] at hi; simp only [SV.den, e, prM_ok hb _ _ _ h hi hl]
    · cases h
  | .agg a, b, l, h, hi, hl => by
    cases b <;> simp only [prM] at h <;> try (cases h; done)
    simp only [SV.inside] at hi
    simp only [SV.den, prML_ok hb _ _ _ h hi hl]
  | .tuple a, b, l, h, hi, hl => by
    cases b <;> simp only [prM] at h <;> try (cases h; done)
    simp only [SV.inside] at hi
    simp only [SV.den, prML_ok hb _ _ _ h hi hl]
  | .strv _, b, l, h, hi, hl => by cases b <;> simp [prM] at h
  | .any _, b, l, h, hi, hl => by cases b <;> simp [prM] at h
theorem prML_ok {bm : Nat → Nat} {σ τ : Sg} {n : Nat} (hb : ∀ b, b < n → τ.pl b = σ.pl (bm b)) : ∀ (a b : List SV) (l : List Pr), prML bm a b = some l → insideL n b = true → All ρ ρ' l → denL ρ σ a = denL ρ' τ b
  | [], [], l, h, hi, hl => rfl
  | a :: r, b :: s, l, h, hi, hl => by
    simp only [prML] at h
    simp only [insideL, Bool.and_eq_true] at hi
    split at h
    · rename_i x y hx hy
      cases h
      simp only [denL, prM_ok hb _ _ _ hx hi.1 hl.left, prML_ok hb _ _ _ hy hi.2 hl.right]
    · cases h
  | [], _ :: _, l, h, hi, hl => by simp [prML] at h
  | _ :: _, [], l, h, hi, hl => by simp [prML] at h
end

/-- A row as a shared one: it may be one's own. -/
def prRow (x y : Blk) : Option (List Pr) := if y.ro = true ∧ x.cells.isEmpty = true ∧ y.cells.isEmpty = true ∧ x.abs.isSome = true then prA x.abs y.abs else none
theorem prRow_ok {σ τ : Sg} {x y : Blk} {l : List Pr} (h : prRow x y = some l) (hl : All ρ ρ' l) {p : Pl} {w : World} (hx : BlkAt P ρ σ x p w) : BlkAt P ρ' τ y p w ∧ y.shd = true ∧ y.cells = [] := by
  unfold prRow at h
  split at h
  · rename_i hc
    obtain ⟨h1, h2, h3, h4⟩ := hc
    cases hA : x.abs with
    | none => rw [hA] at h4; cases h4
    | some A =>
      rw [hA] at h
      cases hB : y.abs with
      | none => rw [hB] at h; simp [prA] at h
      | some B =>
        rw [hB] at h
        simp only [prA] at h
        split at h
        · rename_i es
          obtain ⟨r, hr, rfl⟩ := Option.map_eq_some_iff.1 h
          have hc := prC_ok hr hl.right
          have hn := prN_ok hl.left
          obtain ⟨g1, g2, g3, g4, g5⟩ := hx.row A hA
          refine ⟨BlkAt.ofRows (Blk.row_rec hB) (by rw [hB]; rfl) fun C hC => ?_, by simp [Blk.shd, hB, h1], by simpa using h3⟩
          rw [hB] at hC
          cases hC
          refine ⟨by rw [← hn]; exact g1, by rw [← es]; exact fitC_len2 _ _ _ g2 hc.1.symm, (fun a ha => by rw [← hn]; exact g3 a ha), (fun hg => ?_), (fun hg => by rw [← hn]; exact g5 hg)⟩
          obtain ⟨c, t, fr, k1, k2, k3⟩ := g4 hg
          refine ⟨c, t, fr, k1, fun j i hj hi => ?_, fun hro => by rw [h1] at hro; cases hro⟩
          rw [← es, ← hc.2]; exact k2 j i (by rw [hn]; exact hj) (by rw [es]; exact hi)
        · cases h
  · cases h
/-- The rows of the inputs, by the caller's blocks. -/
def prIn (H : Hp) : List Nat → Hp → Option (List Pr)
  | [], [] => some []
  | b :: M, some y :: K => (match getB H b with
    | some x => (match prRow x y, prIn H M K with
      | some p, some q => some (p ++ q)
      | _, _ => none)
    | none => none)
  | _, _ => none
theorem prIn_ok {H : Hp} : ∀ {M : List Nat} {K : Hp} {l : List Pr}, prIn H M K = some l → All ρ ρ' l → M.length = K.length ∧ ∀ (i : Nat) (y : Blk), K[i]? = some (some y) → ∃ b x p, M[i]? = some b ∧ H[b]? = some (some x) ∧ prRow x y = some p ∧ All ρ ρ' p
  | [], [], l, h, hl => ⟨rfl, fun i y hy => by simp at hy⟩
  | b :: M, some z :: K, l, h, hl => by
    simp only [prIn] at h
    split at h
    · rename_i x hx
      split at h
      · rename_i p q hp hq
        cases h
        obtain ⟨h1, h2⟩ := prIn_ok hq hl.right
        refine ⟨by simp [h1], fun i y hy => ?_⟩
        cases i with
        | zero => simp at hy; subst hy; exact ⟨b, x, p, rfl, getB_some hx, hp, hl.left⟩
        | succ i => simpa using h2 i y (by simpa using hy)
      · cases h
    · cases h
  | [], some _ :: _, l, h, hl => by simp [prIn] at h
  | [], none :: _, l, h, hl => by simp [prIn] at h
  | _ :: _, [], l, h, hl => by simp [prIn] at h
  | _ :: _, none :: _, l, h, hl => by simp [prIn] at h
/-- The new rows. -/
def prNew : Hp → Hp → Option (List Pr)
  | [], [] => some []
  | some x :: H, some y :: K => if x.cells.isEmpty = true ∧ y.cells.isEmpty = true then (match prB1 x y, prNew H K with
    | some p, some q => some (p ++ q)
    | _, _ => none) else none
  | _, _ => none
theorem prNew_ok : ∀ {H K : Hp} {l : List Pr}, prNew H K = some l → All ρ ρ' l → H.length = K.length ∧ ∀ (i : Nat) (x : Blk), H[i]? = some (some x) → ∃ y, K[i]? = some (some y) ∧ x.cells = [] ∧ ∀ σ, SameBlk ρ ρ' σ x y
  | [], [], l, h, hl => ⟨rfl, fun i y hy => by simp at hy⟩
  | some z :: H, some y :: K, l, h, hl => by
    simp only [prNew] at h
    split at h
    · rename_i hc
      split at h
      · rename_i p q hp hq
        cases h
        obtain ⟨h1, h2⟩ := prNew_ok hq hl.right
        refine ⟨by simp [h1], fun i x hx => ?_⟩
        cases i with
        | zero => simp at hx; subst hx; exact ⟨y, rfl, by simpa using hc.1, fun σ => prB1_ok σ hp hl.left⟩
        | succ i => simpa using h2 i x (by simpa using hx)
      · cases h
    · cases h
  | [], some _ :: _, l, h, hl => by simp [prNew] at h
  | [], none :: _, l, h, hl => by simp [prNew] at h
  | some _ :: _, [], l, h, hl => by simp [prNew] at h
  | none :: _, _, l, h, hl => by simp [prNew] at h
  | some _ :: _, none :: _, l, h, hl => by simp [prNew] at h
theorem SameBlk.nocells {σ τ : Sg} {x y : Blk} (h : SameBlk ρ ρ' σ x y) (hx : x.cells = []) : SameBlk ρ' ρ τ y x := by
  have hy : y.cells = [] := List.eq_nil_of_length_eq_zero (by have := h.len; rw [hx] at this; simpa using this.symm)
  refine ⟨h.elem.symm, h.opn.symm, h.ro.symm, h.len.symm, (fun _ => by rw [hx, hy]; rfl), (fun _ => by rw [hx, hy]; exact ⟨id, fun t ht => ⟨ht, rfl⟩⟩), fun he => ?_, fun B hB => ?_⟩
  · cases hY : y.abs with
    | none => rfl
    | some B => obtain ⟨A, hA, _⟩ := h.some_ B hY; rw [he] at hA; cases hA
  · cases hY : y.abs with
    | none => rw [h.none_ hY] at hB; cases hB
    | some C =>
      obtain ⟨A, hA, e1, e2, e3, e4⟩ := h.some_ C hY
      rw [hB] at hA
      cases hA
      exact ⟨C, rfl, e1.symm, e2.symm, e3.symm, fun j s => (e4 j s).symm⟩

/-- By which number a block of the contract goes for the caller. -/
def bmOf (M : List Nat) (base i : Nat) : Nat := match M[i]? with
  | some b => b
  | none => base + (i - M.length)
/-- The contract, told by the caller's terms. -/
def callChk (S : Sig) (x x' : X3) (c : CallE) : Bool :=
  Nat.beq c.f S.f && (decide (x.sz = S.inp) && (insideL S.H.length S.args && (S.r.inside (S.H.length + S.Hn.length) && (Nat.beq c.M.length S.H.length && (c.M.all (fun b => Nat.blt b c.HM.length) &&
  ((match prML (bmOf c.M c.HM.length) c.args S.args with
    | some l => l.all (prSub ⟨0, 0, 0⟩ x)
    | none => false) && ((match prIn c.HM c.M S.H with
    | some l => l.all (prSub ⟨0, 0, 0⟩ x)
    | none => false) && ((match prM (bmOf c.M c.HM.length) c.r S.r with
    | some l => l.all (prSub ⟨0, 0, 0⟩ x')
    | none => false) && (match prNew c.Hn S.Hn with
    | some l => l.all (prSub ⟨0, 0, 0⟩ x')
    | none => false)))))))))
theorem call_of_spec {S : Sig} {x x' : X3} {c : CallE} (h : callChk S x x' c = true) {V : Vs} {xs : List Int} {bs : List Bool} {rs : List (Int → Int)}
    (hx' : ⟨denN (envV V) x'.ns, denB (envV V) x'.bs, denA (envV V) x'.rs⟩ = (Vs.mk (denN (envV V) x.ns) (denB (envV V) x.bs) (denA (envV V) x.rs)).add xs bs rs)
    (hS : Spec P S ⟨denN (envV V) x.ns, denB (envV V) x.bs, denA (envV V) x.rs⟩ xs bs rs) : c.Ok P (envV V) := by
  simp only [callChk, Bool.and_eq_true] at h
  obtain ⟨h1, h2, h3, h4, h5, h6, h7, h8, h9, h10⟩ := h
  have z0 : (⟨0, 0, 0⟩ : Sz).le V.sz := ⟨Nat.zero_le _, Nat.zero_le _, Nat.zero_le _⟩
  have e0 : V.put ⟨0, 0, 0⟩ x = ⟨denN (envV V) x.ns, denB (envV V) x.bs, denA (envV V) x.rs⟩ := by simp [Vs.put, Vs.cut]
  have e1 : V.put ⟨0, 0, 0⟩ x' = (Vs.mk (denN (envV V) x.ns) (denB (envV V) x.bs) (denA (envV V) x.rs)).add xs bs rs := by rw [← hx']; simp [Vs.put, Vs.cut]
  split at h7
  case h_2 => cases h7
  rename_i l7 g7
  split at h8
  case h_2 => cases h8
  rename_i l8 g8
  split at h9
  case h_2 => cases h9
  rename_i l9 g9
  split at h10
  case h_2 => cases h10
  rename_i l10 g10
  have a7 := prSub_ok z0 h7; rw [e0] at a7
  have a8 := prSub_ok z0 h8; rw [e0] at a8
  have a9 := prSub_ok z0 h9; rw [e1] at a9
  have a10 := prSub_ok z0 h10; rw [e1] at a10
  have hf := Nat.eq_of_beq_eq_true h1
  have hM := Nat.eq_of_beq_eq_true h5
  obtain ⟨i1, i2⟩ := prIn_ok g8 a8
  obtain ⟨n1, n2⟩ := prNew_ok g10 a10
  intro σ w hr
  let bm := bmOf c.M c.HM.length
  let τ : Sg := ⟨fun b => σ.blk (bm b), fun b => σ.cap (bm b), fun b => σ.off (bm b), fun b => σ.gh (bm b)⟩
  have hτ : ∀ b, τ.pl b = σ.pl (bm b) := fun b => rfl
  have bmlt : ∀ i, i < S.H.length → bm i < c.HM.length := by
    intro i hi
    have hlt : i < c.M.length := by omega
    have : bm i = c.M[i] := by show bmOf _ _ _ = _; unfold bmOf; rw [List.getElem?_eq_getElem hlt]
    rw [this]
    exact Nat.blt_eq.mp (List.all_eq_true.1 h6 _ (List.getElem_mem hlt))
  have bmnew : ∀ i, S.H.length ≤ i → bm i = c.HM.length + (i - S.H.length) := by
    intro i hi
    show bmOf _ _ _ = _
    unfold bmOf; rw [List.getElem?_eq_none (by omega), hM]
  have hrel : HRel P (envV ⟨denN (envV V) x.ns, denB (envV V) x.bs, denA (envV V) x.rs⟩) τ S.H w := by
    have key : ∀ (i : Nat) (y : Blk), S.H[i]? = some (some y) → BlkAt P (envV ⟨denN (envV V) x.ns, denB (envV V) x.bs, denA (envV V) x.rs⟩) τ y (τ.pl i) w ∧ y.shd = true ∧ y.cells = [] := by
      intro i y hy
      obtain ⟨b, z, p, hb, hz, hp, hA⟩ := i2 i y hy
      have eb : bm i = b := by show bmOf _ _ _ = _; unfold bmOf; rw [hb]
      have := prRow_ok (P := P) (σ := σ) (τ := τ) hp hA (hr.blk b z hz).2
      rw [hτ, eb]; exact this
    refine ⟨fun i y hy => ⟨by rw [(key i y hy).2.2]; rfl, (key i y hy).1⟩, fun i i' y y' hy hy' hs => ?_⟩
    rcases hs with hs | hs
    · rw [(key i y hy).2.1] at hs; cases hs
    · rw [(key i' y' hy').2.1] at hs; cases hs
  have hargs : denL (envV V) σ c.args = denL (envV ⟨denN (envV V) x.ns, denB (envV V) x.bs, denA (envV V) x.rs⟩) τ S.args := prML_ok (n := S.H.length) (fun b _ => hτ b) _ _ _ g7 h3 a7
  rw [hf, hargs]
  refine Calls.mono (hS τ w hrel) fun e w' ⟨τ', hp, he⟩ => ?_
  let σ' : Sg := ⟨fun b => if b < c.HM.length then σ.blk b else τ'.blk (S.H.length + (b - c.HM.length)), fun b => if b < c.HM.length then σ.cap b else τ'.cap (S.H.length + (b - c.HM.length)), fun b => if b < c.HM.length then σ.off b else τ'.off (S.H.length + (b - c.HM.length)), fun b => if b < c.HM.length then σ.gh b else τ'.gh (S.H.length + (b - c.HM.length))⟩
  have hag : σ.agree c.HM.length σ' := fun b hb => ⟨if_pos hb, if_pos hb, if_pos hb, if_pos hb⟩
  have hnw : ∀ b, c.HM.length ≤ b → σ'.pl b = τ'.pl (S.H.length + (b - c.HM.length)) := by
    intro b hb
    have : ¬ b < c.HM.length := by omega
    simp [Sg.pl, σ', this]
  have hfr : ∀ k, k < w.heap.size → w'.heap[k]? = w.heap[k]? := fun k hk => hp.frame k hk fun b hb => by cases hb
  have hpl : ∀ b, b < S.H.length + S.Hn.length → τ'.pl b = σ'.pl (bm b) := by
    intro b hb
    rcases Nat.lt_or_ge b S.H.length with hlt | hge
    · rw [hp.ext.pl hlt, hτ, hag.pl (bmlt b hlt)]
    · rw [bmnew b hge, hnw _ (Nat.le_add_right _ _)]
      congr 1; omega
  have blkOf : ∀ {b : Nat}, c.HM.length ≤ b → σ'.blk b = τ'.blk (S.H.length + (b - c.HM.length)) ∧ σ'.gh b = τ'.gh (S.H.length + (b - c.HM.length)) := by
    intro b hb
    have := hnw b hb
    simp only [Sg.pl, Pl.mk.injEq] at this
    exact ⟨this.1, this.2.2.2⟩
  have newAt : ∀ (b : Nat) (z : Blk), c.HM.length ≤ b → (c.HM ++ c.Hn)[b]? = some (some z) → ∃ y, (S.H ++ S.Hn)[S.H.length + (b - c.HM.length)]? = some (some y) ∧ z.cells = [] ∧ ∀ σ, SameBlk (envV V) (envV ((Vs.mk (denN (envV V) x.ns) (denB (envV V) x.bs) (denA (envV V) x.rs)).add xs bs rs)) σ z y := by
    intro b z hb hz
    rw [List.getElem?_append_right hb] at hz
    obtain ⟨y, hy, hc, hs⟩ := n2 _ z hz
    refine ⟨y, ?_, hc, hs⟩
    rw [List.getElem?_append_right (by omega)]
    rw [show S.H.length + (b - c.HM.length) - S.H.length = b - c.HM.length by omega]; exact hy
  have fresh : ∀ b, c.HM.length ≤ b → b < (c.HM ++ c.Hn).length → σ'.gh b = none → w.heap.size ≤ σ'.blk b := by
    intro b hb hlt hg
    rw [(blkOf hb).1]
    rw [(blkOf hb).2] at hg
    simp only [List.length_append] at hlt
    rcases hp.new (S.H.length + (b - c.HM.length)) (by omega) (by simp only [List.length_append]; omega) hg with h | ⟨d, hd, _⟩
    · exact h
    · cases hd
  have lenlt : ∀ {b : Nat} {z : Blk}, (c.HM ++ c.Hn)[b]? = some (some z) → b < (c.HM ++ c.Hn).length := fun hb => (List.getElem?_eq_some_iff.1 hb).1
  have old : ∀ {b : Nat} {z : Blk}, b < c.HM.length → (c.HM ++ c.Hn)[b]? = some (some z) → c.HM[b]? = some (some z) := fun hlt hb => by rwa [List.getElem?_append_left hlt] at hb
  refine ⟨σ', ⟨hag, by simp, ⟨fun b z hb => ?_, fun b b' z z' hb hb' hs hg hg' he => ?_⟩, fun b q1 q2 hg => .inl (fresh b q1 q2 hg), hp.os, hp.tape, hp.out, hp.size, hp.kd, fun k hk _ => hfr k hk, fun b hb _ => by rw [List.getElem?_append_left hb]⟩, ?_⟩
  · rcases Nat.lt_or_ge b c.HM.length with hlt | hge
    · have hb0 := old hlt hb
      obtain ⟨hi, hat⟩ := hr.blk b z hb0
      refine ⟨insideL_mono (by simp) _ hi, ?_⟩
      rw [hag.pl hlt]
      exact hat.to (denL_agree hag _ hi) fun hg => hfr _ (hr.lt hb0 hg)
    · obtain ⟨y, hy, hc, hsb⟩ := newAt b z hge hb
      refine ⟨by rw [hc]; rfl, ?_⟩
      rw [hnw b hge]
      have hyl : y.cells = [] := List.eq_nil_of_length_eq_zero (by have := (hsb σ').len; rw [hc] at this; simpa using this.symm)
      exact ((hsb σ').nocells (τ := σ') hc).at_ ((hp.rel.blk _ y hy).2.to (σ' := σ') (by rw [hyl]; rfl) fun _ => rfl)
  · rcases Nat.lt_or_ge b c.HM.length with hlt | hge <;> rcases Nat.lt_or_ge b' c.HM.length with hlt' | hge'
    · rw [hag.gh hlt] at hg; rw [hag.gh hlt'] at hg'
      rw [(hag b hlt).1, (hag b' hlt').1] at he
      exact hr.inj b b' z z' (old hlt hb) (old hlt' hb') hs hg hg' he
    · rw [hag.gh hlt] at hg
      rw [(hag b hlt).1] at he
      have := hr.lt (old hlt hb) hg
      have := fresh b' hge' (lenlt hb') hg'
      omega
    · rw [hag.gh hlt'] at hg'
      rw [(hag b' hlt').1] at he
      have := hr.lt (old hlt' hb') hg'
      have := fresh b hge (lenlt hb) hg
      omega
    · obtain ⟨y, hy, hc, hsb⟩ := newAt b z hge hb
      obtain ⟨y', hy', hc', hsb'⟩ := newAt b' z' hge' hb'
      rw [(blkOf hge).2] at hg; rw [(blkOf hge').2] at hg'
      rw [(blkOf hge).1, (blkOf hge').1] at he
      have := hp.rel.inj _ _ y y' hy hy' (by rw [← (hsb σ').shd, ← (hsb' σ').shd]; exact hs) hg hg' he
      omega
  · rw [he]
    congr 1
    exact (prM_ok (n := S.H.length + S.Hn.length) hpl _ _ _ g9 h4 a9).symm
end Go.Proofs.Ytgdhpgjfebinhaa.Ev
